package update_test

import (
	"math/rand"
	"slices"
	"strconv"
	"strings"
	"testing"

	"waywiser/api"
	"waywiser/json"
	"waywiser/num"
	"waywiser/order"
	"waywiser/path"
	"waywiser/update"
)

// model changes a document by a change that is one, as the chapter's table tells it.
func model(doc any, u json.Object) (any, api.Errno) {
	for _, m := range u {
		own, _ := m.Value.(json.Object)
		l, _ := m.Value.(json.List)
		for _, p := range l {
			own = append(own, json.Member{Name: p.(string)})
		}
		for _, x := range own {
			var e api.Errno
			if doc, e = done(doc, m.Name, x.Name, x.Value); e != api.OK {
				return nil, e
			}
		}
	}
	return doc, api.OK
}

// done does one thing.
func done(doc any, name, at string, v any) (any, api.Errno) {
	there, is := path.Get(doc, at)
	switch name {
	case "$unset":
		if !is {
			return doc, api.OK
		}
		return path.Drop(doc, at)
	case "$inc", "$mul":
		if !is {
			there = json.Num(0)
		}
		n, ok := there.(json.Num)
		if !ok {
			return nil, api.ErrType
		}
		sum, e := num.Plus(int64(n), int64(v.(json.Num)))
		if name == "$mul" {
			sum, e = num.Times(int64(n), int64(v.(json.Num)))
		}
		if e != api.OK {
			return nil, e
		}
		v = json.Num(sum)
	case "$min", "$max":
		sign, _ := order.Compare(v, there)
		if is && (sign == 0 || (sign < 0) != (name == "$min")) {
			return doc, api.OK
		}
	case "$push":
		l, ok := there.(json.List)
		if is && !ok {
			return nil, api.ErrType
		}
		v = append(l, v)
	case "$rename":
		if !is {
			return doc, api.OK
		}
		doc, _ = path.Drop(doc, at)
		return path.Put(doc, v.(string), there)
	}
	return path.Put(doc, at, v)
}

// maker makes values by chance.
type maker struct{ *rand.Rand }

func (r maker) pick(l ...string) string { return l[r.Intn(len(l))] }

func (r maker) path() string {
	return r.pick("a", "b", "c", "n", "a.b", "a.n", "b.0", "b.1", "c.0.a", "a.b.c", "n.a", "b.2")
}

func (r maker) number() json.Num {
	return []json.Num{0, 1, api.Scale, -api.Scale / 2, 3 * api.Scale, most, -most, most / 2}[r.Intn(8)]
}

// value is one of all kinds, at most so deep.
func (r maker) value(deep int) any {
	switch n := r.Intn(8); {
	case n < 3:
		return r.number()
	case n == 3:
		return r.pick("", "x", "y")
	case n == 4 || deep == 0:
		return []any{nil, true, false}[r.Intn(3)]
	case n < 7:
		l := json.List{}
		for range r.Intn(3) {
			l = append(l, r.value(deep-1))
		}
		return l
	}
	return r.object(deep - 1)
}

func (r maker) object(deep int) json.Object {
	o := json.Object{}
	for _, name := range strings.Fields("a b c n") {
		if r.Intn(3) > 0 {
			o = append(o, json.Member{Name: name, Value: r.value(deep)})
		}
	}
	return o
}

// names are those of a change's members.
var names = strings.Fields("$set $unset $inc $mul $min $max $push $rename")

// change is one of so many members, in any order.
func (r maker) change(n int) json.Object {
	o := json.Object{}
	for _, i := range r.Perm(len(names))[:n] {
		o = append(o, json.Member{Name: names[i], Value: r.own(names[i])})
	}
	return o
}

// own is the value of a change's member.
func (r maker) own(name string) any {
	own, l := json.Object{}, json.List{}
	for range r.Intn(3) {
		at := r.path()
		l = append(l, at)
		if slices.ContainsFunc(own, func(m json.Member) bool { return m.Name == at }) {
			continue
		}
		v := r.value(2)
		switch name {
		case "$inc", "$mul":
			v = r.number()
		case "$rename":
			v = r.path()
		}
		own = append(own, json.Member{Name: at, Value: v})
	}
	if name == "$unset" {
		return l
	}
	return own
}

func TestByChance(t *testing.T) { // P22.1
	r := maker{rand.New(rand.NewSource(22))}
	told := map[api.Errno]int{}
	for range 60000 {
		doc, u := r.object(3), r.change(1+r.Intn(3))
		got, e := update.Apply(doc, u)
		want, why := model(doc, u)
		if e != why || print(got) != print(want) {
			t.Fatalf("%s by %s: %s, %d; want %s, %d", print(doc), print(u), print(got), e, print(want), why)
		}
		told[e]++
	}
	if told[api.OK] < 10000 || told[api.ErrType] < 10000 || told[api.ErrNumber] < 300 {
		t.Errorf("told: %v", told)
	}
}

func TestTwoChangesAreOne(t *testing.T) { // P22.2
	r := maker{rand.New(rand.NewSource(2))}
	for range 20000 {
		doc, u := r.object(3), r.change(2+r.Intn(5))
		cut := 1 + r.Intn(len(u)-1)
		got, e := update.Apply(doc, u)
		half, why := update.Apply(doc, u[:cut])
		if why == api.OK {
			half, why = update.Apply(half, u[cut:])
		}
		if e != why || print(got) != print(half) {
			t.Fatalf("%s by %s: %s, %d; behind one another %s, %d", print(doc), print(u), print(got), e, print(half), why)
		}
	}
}

// right: is a value a change, by the chapter's table?
func right(u any) bool {
	o, _ := u.(json.Object)
	n := len(o)
	ok := json.May(u) == api.OK && n > 0
	for _, m := range o {
		own, isObject := m.Value.(json.Object)
		l, isList := m.Value.(json.List)
		n += len(own) + len(l)
		ok = ok && slices.Contains(names, m.Name) && (m.Name == "$unset" && isList || m.Name != "$unset" && isObject)
		for _, p := range l {
			text, _ := p.(string)
			ok = ok && isPath(text)
		}
		for _, x := range own {
			_, number := x.Value.(json.Num)
			text, _ := x.Value.(string)
			ok = ok && isPath(x.Name) && (number || m.Name != "$inc" && m.Name != "$mul") && (isPath(text) || m.Name != "$rename")
		}
	}
	return ok && n <= 100
}

func isPath(s string) bool {
	return len(s) <= 128 && !slices.Contains(strings.Split(s, "."), "")
}

// places are those of a value, and of all that is in it.
func places(v *any) []*any {
	out := []*any{v}
	switch x := (*v).(type) {
	case json.List:
		for i := range x {
			out = append(out, places(&x[i])...)
		}
	case json.Object:
		for i := range x {
			out = append(out, places(&x[i].Value)...)
		}
	}
	return out
}

// spoil changes a value somewhere: it puts something else there, or gives a member another name.
func (r maker) spoil(v any) any {
	l := places(&v)
	at := l[r.Intn(len(l))]
	if o, ok := (*at).(json.Object); ok && len(o) > 0 && r.Intn(2) == 0 {
		o[r.Intn(len(o))].Name = r.pick("", ".", "$", "a", "a..b", "$foo", "$set", "$unset", "$inc", "$push", "$rename", "b.c", strconv.Itoa(r.Intn(3)))
		return v
	}
	switch r.Intn(3) {
	case 0:
		*at = r.value(2)
	case 1:
		*at = r.own(names[r.Intn(len(names))])
	default:
		*at = r.change(2)
	}
	return v
}

func TestRightByChance(t *testing.T) { // P22.1, R1
	r := maker{rand.New(rand.NewSource(5))}
	are, others := 0, 0
	for range 60000 {
		u := any(r.change(1 + r.Intn(3)))
		for range r.Intn(3) {
			u = r.spoil(u)
		}
		is := right(u)
		if update.Right(u) != is {
			t.Fatalf("Right(%s): %t", print(u), !is)
		}
		if _, e := update.Apply(r.object(2), u); (e == api.ErrUpdate) == is {
			t.Fatalf("Apply of %s: %d", print(u), e)
		}
		if is {
			are++
		} else {
			others++
		}
	}
	if are < 10000 || others < 10000 {
		t.Errorf("%d changes, %d others", are, others)
	}
}
