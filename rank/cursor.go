package rank

import (
	"waywiser/api"
	"waywiser/block"
	"waywiser/index"
)

// postings are those of a block that were not gone through yet.
type postings struct{ left []block.Posting }

// pass goes through those whose rows are ahead of one.
func (p *postings) pass(row int) {
	for len(p.left) > 0 && p.left[0].Row < row {
		p.left = p.left[1:]
	}
}

// cursor goes through the rows that have a term. A block whose rows are all gone by is never loaded.
type cursor struct {
	postings // of the first of its blocks; none, as long as that is not loaded
	index    *index.Index
	term     string
	count    int          // of all rows that have it
	heads    []index.Head // of the blocks that were not gone through yet
}

// cursorsOf are cursors through the rows of terms, one each; of terms that no row has there are none.
func cursorsOf(x *index.Index, terms []string) ([]*cursor, api.Errno) {
	var l []*cursor
	for _, term := range terms {
		count, e := x.Count(term)
		if e != api.OK {
			return nil, e
		}
		heads, e := x.Heads(term)
		if e != api.OK {
			return nil, e
		}
		if len(heads) > 0 {
			l = append(l, &cursor{index: x, term: term, count: count, heads: heads})
		}
	}
	return l, api.OK
}

// isBehind: is a cursor behind all rows?
func (c *cursor) isBehind() bool { return len(c.heads) == 0 }

// row tells the row at which a cursor stands that is not behind all.
func (c *cursor) row() int {
	if len(c.left) > 0 {
		return c.left[0].Row
	}
	return c.heads[0].First
}

// posting tells the posting at which it stands.
func (c *cursor) posting() (block.Posting, api.Errno) {
	if e := c.load(); e != api.OK {
		return block.Posting{}, e
	}
	return c.left[0], api.OK
}

// seek goes to the first row that is not ahead of one.
func (c *cursor) seek(row int) api.Errno {
	for !c.isBehind() && c.row() < row {
		if c.heads[0].Last >= row {
			if e := c.load(); e != api.OK {
				return e
			}
			c.pass(row)
		} else {
			c.left = nil
		}
		if len(c.left) == 0 {
			c.heads = c.heads[1:]
		}
	}
	return api.OK
}

// load loads the postings of the block in which it stands, unless they are.
func (c *cursor) load() api.Errno {
	if len(c.left) > 0 {
		return api.OK
	}
	l, e := c.index.Load(c.term, c.heads[0].First)
	c.left = l
	return e
}
