package rank

import (
	"iter"

	"waywiser/api"
	"waywiser/phrase"
)

// stands: does a phrase stand in the row at which the cursors through its terms' rows stand?
func stands(f phrase.Phrase, l []*cursor) (bool, api.Errno) {
	return f.Stands(func(i int) (phrase.Places, api.Errno) {
		p, e := l[i].posting()
		return phrase.Places{At: p.At, Length: p.Length}, e
	})
}

// shared ranges over the rows at which all cursors come to stand, in order, up to the first error.
func shared(l []*cursor) iter.Seq2[int, api.Errno] {
	return func(yield func(int, api.Errno) bool) {
		for row := 0; ; {
			from := row
			for _, c := range l {
				if e := c.seek(row); e != api.OK {
					yield(0, e)
					return
				}
				if c.isBehind() {
					return
				}
				row = c.row()
			}
			if row > from {
				continue
			}
			if !yield(row, api.OK) {
				return
			}
			row++
		}
	}
}
