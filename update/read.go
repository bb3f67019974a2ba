package update

import (
	"waywiser/api"
	"waywiser/json"
	"waywiser/path"
)

// most members may be in a change, its own and theirs.
const most = 100

// The names of the members whose values are not as those of others.
const (
	unset  = "$unset"
	inc    = "$inc"
	mul    = "$mul"
	rename = "$rename"
)

// step is one thing that a change does.
type step struct {
	do    deed
	path  string
	value any
}

// read tells what a change does; false, if it is none.
func read(u any) ([]step, bool) {
	if json.May(u) != api.OK {
		return nil, false
	}
	o, _ := u.(json.Object)
	var out []step
	for _, m := range o {
		steps, ok := readMember(m)
		if !ok {
			return nil, false
		}
		out = append(out, steps...)
	}
	return out, len(o) > 0 && len(o)+len(out) <= most
}

// readMember tells what one of a change's members does.
func readMember(m json.Member) ([]step, bool) {
	do, ok := deeds()[m.Name]
	if !ok {
		return nil, false
	}
	o, ok := members(m)
	if !ok {
		return nil, false
	}
	var out []step
	for _, x := range o {
		if !isPath(x.Name) || !mayBeOf(m.Name, x.Value) {
			return nil, false
		}
		out = append(out, step{do, x.Name, x.Value})
	}
	return out, true
}

// members are a member's own: paths and values. ($unset tells paths alone.)
func members(m json.Member) (json.Object, bool) {
	if m.Name == unset {
		return listed(m.Value)
	}
	o, ok := m.Value.(json.Object)
	return o, ok
}

// listed are the texts of a list, each as a name without a value.
func listed(v any) (json.Object, bool) {
	l, ok := v.(json.List)
	var o json.Object
	for _, item := range l {
		name, text := item.(string)
		if !text {
			return nil, false
		}
		o = append(o, json.Member{Name: name})
	}
	return o, ok
}

// mayBeOf: may a member of that name have that value with a path?
func mayBeOf(name string, v any) bool {
	switch name {
	case inc, mul:
		_, ok := v.(json.Num)
		return ok
	case rename:
		to, ok := v.(string)
		return ok && isPath(to)
	}
	return true
}

// isPath: is a text one?
func isPath(s string) bool {
	_, e := path.Steps(s)
	return e == api.OK
}
