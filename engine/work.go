package engine

import (
	"slices"
	"strings"

	"waywiser/api"
	"waywiser/json"
)

// The letters of a sheet's name.
const nameLetters = "abcdefghijklmnopqrstuvwxyz0123456789_"

// work is a command on its way. Where one of its methods can't do what it should, it ends by a panic.
type work struct {
	*Engine
	name  string      // of the sheet of which it speaks; of all of them none
	parts json.Object // its members beside the first one
	does  deed
	begun bool // something may have been changed
}

// fault is why something can't be done: the panic that ends a command.
type fault struct{ why api.Errno }

// check ends a command that has an error.
func check(e api.Errno) {
	if e != api.OK {
		panic(fault{e})
	}
}

// must is what a call answers, if it answers no error.
func must[T any](x T, e api.Errno) T {
	check(e)
	return x
}

// need ends what is no command.
func need(is bool) {
	if !is {
		check(api.ErrCommand)
	}
}

// as is a member of a command that must be of a kind.
func as[T any](v any) T {
	x, is := v.(T)
	need(is)
	return x
}

// answer does a command. What it changed lasts ahead of its reply, or is taken back.
func (g *Engine) answer(command []byte) (out []byte, e api.Errno) {
	w := &work{Engine: g}
	defer func() {
		if p := recover(); p != nil {
			out, e = nil, p.(fault).why // another panic would be a fault of the program, and goes on
			w.end()
		}
	}()
	w.read(must(json.Parse(command)))
	out = reply(w.does(w))
	if w.begun {
		check(w.pool.Commit())
	}
	return out, api.OK
}

// read reads a command.
func (w *work) read(v any) {
	o := as[json.Object](v)
	need(len(o) > 0)
	does, is := deeds()[o[0].Name]
	need(is)
	w.does, w.parts = does, o[1:]
	if isOfAll(o[0].Name) {
		need(as[bool](o[0].Value))
	} else {
		w.name = as[string](o[0].Value)
		need(isName(w.name))
	}
	w.readParts(partsOf(o[0].Name))
}

// readParts looks whether a command has those members, and no others.
func (w *work) readParts(needed, free []string) {
	for _, m := range w.parts {
		need(slices.Contains(needed, m.Name) || slices.Contains(free, m.Name))
		if slices.Contains(textParts(), m.Name) {
			as[string](m.Value)
		}
	}
	for _, name := range needed {
		need(w.has(name))
	}
}

// isName: may a sheet have that name?
func isName(s string) bool {
	return len(s) > 0 && len(s) <= api.MaxName && strings.Trim(s, nameLetters) == ""
}

// has: has the command such a member?
func (w *work) has(name string) bool {
	return slices.ContainsFunc(w.parts, func(m json.Member) bool { return m.Name == name })
}

// part is a member's value; null, if it is not there.
func (w *work) part(name string) any {
	v, _ := json.Field(w.parts, name)
	return v
}

// text is the value of a member that is a text.
func (w *work) text(name string) string { return as[string](w.part(name)) }

// begin is to be called ahead of the first change. A pool that is dead already changes nothing any more.
func (w *work) begin() { w.begun = !w.Dead() }

// end takes back what was changed. A pool that died meanwhile takes nothing back.
func (w *work) end() {
	if w.begun && w.pool.Back() != api.OK {
		w.lost = true
	}
}
