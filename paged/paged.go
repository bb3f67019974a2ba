// Package paged is what trees on the pages of a pool have in common: how they begin, are read and end, and what becomes of the pool's changes where it can't do what they ask.
package paged

import (
	"maps"
	"slices"

	"waywiser/api"
	"waywiser/pool"
)

// Told hands on a call's error. If it is of a pool that is full, dead, or whose disk is down, all the pool's changes since its last commit are taken back.
func Told(p *pool.Pool, e api.Errno) api.Errno {
	switch e {
	case api.ErrFull, api.ErrState, api.ErrDown:
		p.Back()
	}
	return e
}

// Make takes a page for the root of a tree; its load is 0.
func Make(p *pool.Pool) (int, api.Errno) {
	if p == nil {
		return 0, api.ErrArg
	}
	root, e := p.Take()
	return root, Told(p, e)
}

// Open tells what is against opening a tree. Nothing but a page that is not taken is: that its disk is down is told by what is asked of the tree.
func Open(p *pool.Pool, root int) api.Errno {
	if p == nil {
		return api.ErrArg
	}
	if _, e := p.Read(root); e == api.ErrNone {
		return e
	}
	return api.OK
}

// Place takes a page, and writes a load there.
func Place(p *pool.Pool, load []byte) (int, api.Errno) {
	page, e := p.Take()
	if e != api.OK {
		return 0, e
	}
	return page, p.Write(page, load)
}

// Give gives pages back.
func Give(p *pool.Pool, pages []int) api.Errno {
	for _, page := range pages {
		if e := p.Give(page); e != api.OK {
			return e
		}
	}
	return api.OK
}

// Loader tells the loads of a tree's pages.
type Loader interface {
	Load(page int) ([]byte, api.Errno)
}

// Reader reads pages of a tree, each at most once.
type Reader struct {
	pool *pool.Pool
	left int
}

// Read is a reader of a pool's pages.
func Read(p *pool.Pool) *Reader { return &Reader{p, p.Pages()} }

// Load tells a page's load. ErrForm, if pages that lead to it are no tree's: it is not taken, or there were more than the pool has.
func (r *Reader) Load(page int) ([]byte, api.Errno) {
	if r.left == 0 {
		return nil, api.ErrForm
	}
	r.left--
	load, e := r.pool.Read(page)
	if e == api.ErrNone {
		return nil, api.ErrForm
	}
	return load, e
}

// Draft is what is to become of a tree's pages, once all is read that it hangs on: a disk that is down lets nothing be done by halves.
type Draft struct {
	reader *Reader
	loads  map[int][]byte
	gone   []int
}

// Begin is a draft in which all pages of a pool are as they are.
func Begin(p *pool.Pool) *Draft { return &Draft{reader: Read(p), loads: map[int][]byte{}} }

// Load tells the load that a page is to have, as a Reader does.
func (d *Draft) Load(page int) ([]byte, api.Errno) {
	if load, is := d.loads[page]; is {
		return load, api.OK
	}
	return d.reader.Load(page)
}

// Write lets a page have a load, with 0 behind it.
func (d *Draft) Write(page int, load []byte) {
	whole := make([]byte, max(len(load), d.reader.pool.Room()))
	copy(whole, load)
	d.loads[page] = whole
}

// Give lets a page go.
func (d *Draft) Give(page int) {
	delete(d.loads, page)
	d.gone = append(d.gone, page)
}

// Do does it to the pool.
func (d *Draft) Do() api.Errno {
	p := d.reader.pool
	for _, page := range slices.Sorted(maps.Keys(d.loads)) {
		if e := p.Write(page, d.loads[page]); e != api.OK {
			return e
		}
	}
	return Give(p, d.gone)
}
