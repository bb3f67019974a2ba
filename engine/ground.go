package engine

import (
	"waywiser/api"
	"waywiser/btree"
	"waywiser/disk"
	"waywiser/pool"
)

// The pool's roots that an engine uses: the tree of its sheets, and a mark by which its pool is told from others.
const (
	treeRoot = 0
	markRoot = 1
	mark     = 0x57415957
)

// givenAtOnce is how many pages are given back by one commit: with the pool's own page as many as the least log has slots.
const givenAtOnce = 4

// isOurs: is a pool an engine's?
func isOurs(p *pool.Pool) bool { return p.Root(markRoot) == mark }

// formatted is a pool, and the tree of an engine on it that has no sheets. An engine that was there is there behind a crash, or one without sheets: so its pool is emptied, not formatted, which would leave none at all for a while.
func formatted(d *disk.Disk) (*pool.Pool, *btree.Tree, api.Errno) {
	if p, e := pool.Open(d); e == api.OK && isOurs(p) {
		t, e := emptied(p)
		return p, t, e
	}
	p, e := pool.Format(d)
	if e != api.OK {
		return nil, nil, e
	}
	t, e := begun(p)
	return p, t, e
}

// opened is a pool, and the tree of the engine that is there; ErrForm, if none is.
func opened(d *disk.Disk) (*pool.Pool, *btree.Tree, api.Errno) {
	p, e := pool.Open(d)
	if e != api.OK {
		return nil, nil, e
	}
	switch {
	case !isOurs(p):
		return nil, nil, api.ErrForm
	case p.Root(treeRoot) == 0:
		t, e := cleared(p)
		return p, t, e
	}
	t, e := btree.Open(p, p.Root(treeRoot))
	if e != api.OK {
		return nil, nil, api.ErrForm
	}
	return p, t, api.OK
}

// begun makes a pool of which no page is taken an engine's, and tells the tree of its sheets.
func begun(p *pool.Pool) (*btree.Tree, api.Errno) {
	t, e := btree.Make(p)
	if e != api.OK {
		return nil, e
	}
	if e := p.SetRoot(treeRoot, t.Root()); e != api.OK {
		return nil, e
	}
	if e := p.SetRoot(markRoot, mark); e != api.OK {
		return nil, e
	}
	return t, p.Commit()
}

// emptied makes an engine's pool one of an engine without sheets: from its first commit on it has no tree any more, whatever pages are taken yet.
func emptied(p *pool.Pool) (*btree.Tree, api.Errno) {
	if e := p.SetRoot(treeRoot, 0); e != api.OK {
		return nil, e
	}
	if e := p.Commit(); e != api.OK {
		return nil, e
	}
	return cleared(p)
}

// cleared gives back all pages that an engine without a tree has taken, and makes it a tree.
func cleared(p *pool.Pool) (*btree.Tree, api.Errno) {
	given := 0
	for page := p.Pages() - 1; page > 0; page-- {
		switch e := p.Give(page); e {
		case api.OK:
			given++
		case api.ErrNone:
			continue
		default:
			return nil, e
		}
		if given%givenAtOnce == 0 {
			if e := p.Commit(); e != api.OK {
				return nil, e
			}
		}
	}
	return begun(p)
}
