package update

import (
	"waywiser/api"
	"waywiser/json"
	"waywiser/num"
	"waywiser/order"
	"waywiser/path"
)

// work is a document on its way. Where one of its methods can't do what it should, it ends by a panic.
type work struct{ doc any }

// fault is why something can't be done: the panic that ends a change.
type fault struct{ why api.Errno }

// must is what a call answers, if it answers no error.
func must[T any](x T, e api.Errno) T {
	if e != api.OK {
		panic(fault{e})
	}
	return x
}

// as is a value that must be of a kind.
func as[T any](v any) T {
	x, ok := v.(T)
	if !ok {
		panic(fault{api.ErrType})
	}
	return x
}

// deed is what a member does with one of its own members: a path, and a value.
type deed func(w *work, at string, v any)

// deeds are what all members do, by their names.
func deeds() map[string]deed {
	return map[string]deed{
		"$set":  (*work).set,
		unset:   (*work).unset,
		inc:     (*work).inc,
		mul:     (*work).mul,
		"$min":  (*work).min,
		"$max":  (*work).max,
		"$push": (*work).push,
		rename:  (*work).rename,
	}
}

func (w *work) set(at string, v any) { w.doc = must(path.Put(w.doc, at, v)) }

func (w *work) unset(at string, _ any) {
	doc, e := path.Drop(w.doc, at)
	if e != api.ErrNone {
		w.doc = must(doc, e)
	}
}

func (w *work) inc(at string, v any) { w.reckon(at, v, num.Plus) }

func (w *work) mul(at string, v any) { w.reckon(at, v, num.Times) }

func (w *work) min(at string, v any) { w.setOn(-1, at, v) }

func (w *work) max(at string, v any) { w.setOn(1, at, v) }

func (w *work) push(at string, v any) {
	w.set(at, append(as[json.List](w.standing(at, json.List{})), v))
}

func (w *work) rename(at string, v any) {
	if x, there := path.Get(w.doc, at); there {
		w.unset(at, nil)
		w.set(as[string](v), x)
	}
}

// standing is what stands somewhere, in memory of its own, or in its place something else.
func (w *work) standing(at string, other any) any {
	if x, there := path.Get(w.doc, at); there {
		return x
	}
	return other
}

// reckon puts there what is made of the number that stands there and another one.
func (w *work) reckon(at string, v any, with func(a, b int64) (int64, api.Errno)) {
	a, b := as[json.Num](w.standing(at, json.Num(0))), as[json.Num](v)
	w.set(at, json.Num(must(with(int64(a), int64(b)))))
}

// setOn puts a value where nothing stands, or what is on that side of it by the order: it is ahead (-1), or behind (1).
func (w *work) setOn(side int, at string, v any) {
	if x, there := path.Get(w.doc, at); !there || must(order.Compare(v, x)) == side {
		w.set(at, v)
	}
}
