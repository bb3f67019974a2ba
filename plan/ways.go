package plan

import (
	"slices"

	"waywiser/api"
	"waywiser/sheet"
)

// The kinds of indexes, and the plans that are not named by them.
const (
	orderKind = "order"
	cellKind  = "cell"
	spotKind  = "spot"
	textKind  = "text"
	topPlan   = "top"
	nearPlan  = "near"
	scanPlan  = "scan"
)

// way is a plan: its name, and what comes to documents that are asked for, to all of those, at least, that are told.
type way struct {
	name string
	hits func() ([]hit, api.Errno)
}

// finder finds rows, in order.
type finder func() ([]int, api.Errno)

// source is where documents are looked for: the plan's name, and what finds the rows of all that are asked for, and perhaps of others.
type source struct {
	name string
	find finder
}

// work is a question, and the sheet of which it is asked.
type work struct {
	sheet *sheet.Sheet
	ask   *Ask
}

// waysTo are all ways to a question's answer. Each name is there once: a path may make one plan look like two.
func waysTo(s *sheet.Sheet, a *Ask) []way {
	w := work{s, a}
	all := w.firsts()
	for _, x := range w.sources() {
		all = append(all, way{x.name, func() ([]hit, api.Errno) { return w.all(x) }})
	}
	var l []way
	for _, x := range all {
		if !slices.ContainsFunc(l, func(y way) bool { return y.name == x.name }) {
			l = append(l, x)
		}
	}
	return l
}

// firsts are the ways that come to an answer's first documents by an index that has them in that order.
func (w work) firsts() []way {
	if len(w.ask.sort) > 0 {
		return nil
	}
	var l []way
	near, text := w.ask.near, w.ask.text
	for _, x := range w.sheet.Indexes() {
		switch {
		case x.Kind == spotKind && near != nil && near.path == x.Path:
			l = append(l, way{named(nearPlan, x), func() ([]hit, api.Errno) { return w.nearest(x) }})
		case x.Kind == textKind && near == nil && text != nil && text.path == x.Path && len(text.terms) > 0:
			l = append(l, way{named(topPlan, x), func() ([]hit, api.Errno) { return w.best(x) }})
		}
	}
	return l
}

// sources are those there are: two indexes, one index, all rows.
func (w work) sources() []source {
	var pairs, singles []source
	for _, x := range w.sheet.Indexes() {
		if find := w.by(x); find != nil {
			singles = append(singles, source{named(x.Kind, x), find})
		}
	}
	for i, x := range singles {
		for _, y := range singles[i+1:] {
			pairs = append(pairs, source{x.name + "&" + y.name, inAll(x.find, y.find)})
		}
	}
	return slices.Concat(pairs, singles, []source{{scanPlan, w.sheet.Rows}})
}

// by is what finds rows by an index; nil, if nothing is asked for by which it finds any.
func (w work) by(x sheet.Spec) finder {
	switch x.Kind {
	case orderKind:
		return w.byOrder(x)
	case cellKind:
		return w.byBoxes(x, "$point")
	case spotKind:
		return w.byBoxes(x, "$point", "$box", "$within", "$meets")
	case textKind:
		return w.byText(x)
	}
	return nil
}

// named is the name of a plan by an index.
func named(plan string, x sheet.Spec) string { return plan + ":" + x.Path }
