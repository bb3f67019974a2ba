package plan

import (
	"slices"

	"waywiser/api"
	"waywiser/index"
	"waywiser/json"
	"waywiser/order"
	"waywiser/query"
	"waywiser/rank"
	"waywiser/shape"
	"waywiser/sheet"
)

// inAll is what finds the rows that all finders find; nil, if there are none of these.
func inAll(finders ...finder) finder {
	if len(finders) == 0 {
		return nil
	}
	return func() ([]int, api.Errno) {
		rows, e := finders[0]()
		for _, find := range finders[1:] {
			if e != api.OK || len(rows) == 0 {
				break
			}
			var others []int
			others, e = find()
			rows = slices.DeleteFunc(rows, func(row int) bool {
				_, is := slices.BinarySearch(others, row)
				return !is
			})
		}
		if e != api.OK {
			return nil, e
		}
		return rows, api.OK
	}
}

// span is all values from one to another.
type span struct{ low, high any }

// and is all values that are in both; false, if there are none.
func (s span) and(t span) (span, bool) {
	if isAhead(s.low, t.low) {
		s.low = t.low
	}
	if isAhead(t.high, s.high) {
		s.high = t.high
	}
	return s, !isAhead(s.high, s.low)
}

// isAhead: is a value ahead of another one?
func isAhead(a, b any) bool {
	sign, _ := order.Compare(a, b)
	return sign < 0
}

// spansOf are those in one of which a value is that meets a condition; false, if the condition has none.
func spansOf(c query.Condition) ([]span, bool) {
	low, high, are := ends(query.Kind(c.Value))
	switch c.Name {
	case "$eq":
		return []span{{c.Value, c.Value}}, true
	case "$in":
		l, _ := c.Value.(json.List)
		var spans []span
		for _, v := range l {
			spans = append(spans, span{v, v})
		}
		return spans, len(l) > 0
	case "$lt", "$lte":
		return []span{{low, c.Value}}, are
	case "$gt", "$gte":
		return []span{{c.Value, high}}, are
	}
	return nil, false
}

// ends are the first value of a kind, and one behind which there are none; false, if there is no such one.
func ends(kind string) (low, high any, are bool) {
	switch kind {
	case "null":
		return nil, nil, true
	case "bool":
		return false, true, true
	case "number":
		return true, "", true // true is the last one ahead of all numbers
	case "text":
		return "", json.List{}, true
	case "list":
		return json.List{}, json.Object{}, true
	}
	return nil, nil, false
}

// byOrder finds rows by what values are.
func (w work) byOrder(x sheet.Spec) finder {
	var l []span
	asked := false
	for _, c := range w.ask.own {
		spans, are := spansOf(c)
		if c.Path != x.Path || !are {
			continue
		}
		if asked {
			spans = inBoth(l, spans)
		}
		l, asked = spans, true
	}
	if !asked {
		return nil
	}
	return func() ([]int, api.Errno) {
		var rows []int
		for _, s := range l {
			more, e := w.sheet.Between(x, s.low, s.high)
			if e != api.OK {
				return nil, e
			}
			rows = append(rows, more...)
		}
		slices.Sort(rows)
		return slices.Compact(rows), api.OK
	}
}

// inBoth are the spans of what is in one of l and in one of m.
func inBoth(l, m []span) []span {
	var out []span
	for _, s := range l {
		for _, t := range m {
			if both, are := s.and(t); are {
				out = append(out, both)
			}
		}
	}
	return out
}

// byBoxes finds rows by where shapes are, as conditions of these names tell it.
func (w work) byBoxes(x sheet.Spec, names ...string) finder {
	var l []finder
	for _, c := range w.ask.own {
		if c.Path == x.Path && slices.Contains(names, c.Name) {
			r := rectOf(c.Value)
			l = append(l, func() ([]int, api.Errno) { return w.sheet.Box(x, r) })
		}
	}
	return inAll(l...)
}

// rectOf is the rect that a condition's value tells, or that of the shape that it tells.
func rectOf(v any) api.Rect {
	l, is := v.(json.List)
	if !is {
		s, _ := shape.Read(v)
		return shape.Box(s)
	}
	var sides [4]int64
	for i := range sides {
		n, _ := l[i].(json.Num)
		sides[i] = int64(n)
	}
	return api.Rect{MinX: sides[0], MinY: sides[1], MaxX: sides[2], MaxY: sides[3]}
}

// byText finds rows by what texts say.
func (w work) byText(x sheet.Spec) finder {
	text := w.ask.text
	if text == nil || text.path != x.Path {
		return nil
	}
	return func() ([]int, api.Errno) {
		texts, e := w.sheet.Text(x)
		if e != api.OK {
			return nil, e
		}
		return inAll(text.finders(texts)...)()
	}
}

// finders find the rows of an index that have some of the terms, and each phrase.
func (t *wording) finders(x *index.Index) []finder {
	var l []finder
	if len(t.terms) > 0 {
		l = append(l, func() ([]int, api.Errno) { return every(x, t.terms) })
	}
	for _, f := range t.phrases {
		l = append(l, func() ([]int, api.Errno) { return rank.Phrase(x, f.text) })
	}
	return l
}

// every finds the rows that have some of the terms.
func every(x *index.Index, terms []string) ([]int, api.Errno) {
	l, e := rank.Every(x, terms)
	var rows []int
	for _, h := range l {
		rows = append(rows, h.Row)
	}
	return rows, e
}
