package engine

import (
	"bytes"
	"math"

	"waywiser/api"
	"waywiser/json"
	"waywiser/sheet"
)

// refused tells why nothing can be asked of an engine's pool.
func (g *Engine) refused() api.Errno {
	if g.lost {
		return api.ErrState
	}
	return api.OK
}

// names are the sheets', in order.
func (g *Engine) names() ([]string, api.Errno) {
	if e := g.refused(); e != api.OK {
		return nil, e
	}
	keys, e := g.tree.Keys(nil, nil, math.MaxInt)
	if e != api.OK {
		return nil, e
	}
	var l []string
	for _, key := range keys {
		l = append(l, string(key))
	}
	return l, api.OK
}

// told is what a sheet tells of itself, as a plain text; ErrNone, if there is no such sheet.
func (g *Engine) told(name string) ([]byte, api.Errno) {
	if e := g.refused(); e != api.OK {
		return nil, e
	}
	return g.tree.Get([]byte(name))
}

// sheet is the one of a name.
func (g *Engine) sheet(name string) (*sheet.Sheet, api.Errno) {
	told, e := g.told(name)
	if e != api.OK {
		return nil, e
	}
	v, e := json.Parse(told)
	if e != api.OK {
		return nil, api.ErrForm
	}
	return sheet.Open(g.pool, v)
}

// keep keeps what a sheet tells of itself now, under its name. Much that is done to a sheet does not change that.
func (g *Engine) keep(name string, s *sheet.Sheet) api.Errno {
	tells, e := json.Print(s.Tell())
	if e != api.OK {
		return e
	}
	if told, e := g.told(name); e == api.OK && bytes.Equal(told, tells) {
		return api.OK
	}
	return g.tree.Put([]byte(name), tells)
}
