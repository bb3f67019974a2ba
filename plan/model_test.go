package plan_test

import (
	"cmp"
	"fmt"
	"math/rand"
	"slices"
	"strings"
	"testing"

	"waywiser/api"
	"waywiser/json"
	"waywiser/order"
	"waywiser/path"
	"waywiser/plan"
	"waywiser/query"
	formula "waywiser/score"
	"waywiser/shape"
	"waywiser/sheet"
	"waywiser/stem"
	"waywiser/word"
)

// member is what a path leads to; nil, if nowhere.
func member(v any, p string) any {
	x, _ := path.Get(v, p)
	return x
}

// stems are a text's words, each as its stem, stop words as none.
func stems(text string) []string {
	var l []string
	for _, w := range word.Words(text) {
		if word.Stop(w.Text) {
			l = append(l, "")
		} else {
			l = append(l, stem.Stem(w.Text))
		}
	}
	return l
}

// terms are a text's stems, each once.
func terms(text string) []string {
	l := slices.Compact(slices.Sorted(slices.Values(stems(text))))
	return slices.DeleteFunc(l, func(s string) bool { return s == "" })
}

// hasPhrase: does a phrase stand in a text? Every place is tried for its first word.
func hasPhrase(text, phrase []string) bool {
	for n := -len(phrase); n < len(text); n++ {
		stands := true
		for i, w := range phrase {
			stands = stands && (w == "" || n+i >= 0 && n+i < len(text) && text[n+i] == w)
		}
		if stands {
			return true
		}
	}
	return false
}

// answer is what a question is answered, by the chapter's words, and how many documents are asked for.
func answer(docs []any, ask any) ([]plan.Found, int) {
	q, _ := query.Read(json.Object{})
	if w, is := json.Field(ask, "where"); is {
		q, _ = query.Read(w)
	}
	var l []any
	for _, doc := range docs {
		if _, near := distance(doc, ask); q.Match(doc) && near && textual(doc, ask) {
			l = append(l, doc)
		}
	}
	slices.SortFunc(l, func(a, b any) int { return hold(docs, ask, a, b) })
	count := len(l)
	skip, _ := member(ask, "skip").(json.Num)
	l = l[min(int(skip/one), len(l)):]
	limit, is := member(ask, "limit").(json.Num)
	if !is {
		limit = 1024 * one
	}
	l = l[:min(int(limit/one), len(l))]
	var out []plan.Found
	for _, doc := range l {
		near, _ := distance(doc, ask)
		out = append(out, plan.Found{Doc: shown(doc, ask), Score: scoreOf(docs, ask, doc), Near: near})
	}
	return out, count
}

// distance is how far the point is that is asked for; false, if there is none, but it is asked for.
func distance(doc, ask any) (uint64, bool) {
	if _, is := json.Field(ask, "near"); !is {
		return 0, true
	}
	s, e := shape.Read(member(doc, member(ask, "near.path").(string)))
	if e != api.OK || s.Kind != shape.Spot {
		return 0, false
	}
	dx := s.Parts[0][0].X - int64(member(ask, "near.at.0").(json.Num))
	dy := s.Parts[0][0].Y - int64(member(ask, "near.at.1").(json.Num))
	return uint64(dx*dx) + uint64(dy*dy), true
}

// wanted are the terms that are asked for.
func wanted(ask any) []string {
	words, _ := member(ask, "text.words").(string)
	return terms(words)
}

// textual: is there the text that is asked for?
func textual(doc, ask any) bool {
	if _, is := json.Field(ask, "text"); !is {
		return true
	}
	text, is := member(doc, member(ask, "text.path").(string)).(string)
	has := is && len(wanted(ask)) == 0
	for _, w := range wanted(ask) {
		has = has || is && slices.Contains(stems(text), w)
	}
	phrases, _ := member(ask, "text.phrases").(json.List)
	for _, f := range phrases {
		has = has && hasPhrase(stems(text), stems(f.(string)))
	}
	return has
}

// scoreOf is a document's score.
func scoreOf(docs []any, ask, doc any) int {
	p, _ := member(ask, "text.path").(string)
	text, is := member(doc, p).(string)
	if !is {
		return 0
	}
	sum := 0
	for _, w := range wanted(ask) {
		var s formula.Stats
		df := 0
		for _, other := range docs {
			if text, is := member(other, p).(string); is {
				s.Texts++
				s.Total += len(stems(text))
				if slices.Contains(stems(text), w) {
					df++
				}
			}
		}
		tf := 0
		for _, x := range stems(text) {
			if x == w {
				tf++
			}
		}
		sum += formula.Score(s, df, tf, len(stems(text)))
	}
	return sum
}

// hold tells which of two documents is told first.
func hold(docs []any, ask, a, b any) int {
	sorts, _ := member(ask, "sort").(json.List)
	for _, by := range sorts {
		p := member(by, "0").(string)
		x, is := path.Get(a, p)
		y, are := path.Get(b, p)
		sign := 0
		switch {
		case is && are:
			sign, _ = order.Compare(x, y)
		case is:
			sign = 1
		case are:
			sign = -1
		}
		if member(by, "1").(bool) {
			sign = -sign
		}
		if sign != 0 {
			return sign
		}
	}
	if _, near := json.Field(ask, "near"); len(sorts) == 0 && near {
		x, _ := distance(a, ask)
		y, _ := distance(b, ask)
		if x != y {
			return cmp.Compare(x, y)
		}
	} else if _, text := json.Field(ask, "text"); len(sorts) == 0 && text {
		if x, y := scoreOf(docs, ask, a), scoreOf(docs, ask, b); x != y {
			return cmp.Compare(y, x)
		}
	}
	sign, _ := order.Compare(member(a, "_id"), member(b, "_id"))
	return sign
}

// shown is what is told of a document.
func shown(doc, ask any) any {
	fields, _ := member(ask, "fields").(json.List)
	if len(fields) == 0 {
		return doc
	}
	var out any = json.Object{{Name: "_id", Value: member(doc, "_id")}}
	for _, f := range fields {
		if x, leads := path.Get(doc, f.(string)); leads {
			if more, e := path.Put(out, f.(string), x); e == api.OK {
				out = more
			}
		}
	}
	return out
}

// plans are those that there are, by the chapter's words.
func plans(specs []sheet.Spec, ask any) []string {
	q, _ := query.Read(json.Object{})
	if w, is := json.Field(ask, "where"); is {
		q, _ = query.Read(w)
	}
	near, _ := member(ask, "near.path").(string)
	text, _ := member(ask, "text.path").(string)
	sorts, _ := member(ask, "sort").(json.List)
	var firsts, pairs, singles []string
	for _, x := range specs {
		if x.Kind == "text" && x.Path == text && len(wanted(ask)) > 0 && len(sorts) == 0 && near == "" {
			firsts = append(firsts, "top:"+text)
		}
		if x.Kind == "spot" && x.Path == near && len(sorts) == 0 {
			firsts = append(firsts, "near:"+near)
		}
		usable := x.Kind == "text" && x.Path == text
		for _, c := range q.Conditions() {
			usable = usable || c.Path == x.Path && helps(x.Kind, c)
		}
		if usable {
			singles = append(singles, x.Kind+":"+x.Path)
		}
	}
	for i := range singles {
		for j := i + 1; j < len(singles); j++ {
			pairs = append(pairs, singles[i]+"&"+singles[j])
		}
	}
	return slices.Concat(firsts, pairs, singles, []string{"scan"})
}

// helps: does a condition let an index of a kind be used?
func helps(kind string, c query.Condition) bool {
	switch c.Name {
	case "$eq":
		return kind == "order"
	case "$in":
		return kind == "order" && len(c.Value.(json.List)) > 0
	case "$lt", "$lte", "$gt", "$gte":
		_, is := c.Value.(json.Object)
		return kind == "order" && !is
	case "$point":
		return kind == "cell" || kind == "spot"
	case "$box", "$within", "$meets":
		return kind == "spot"
	}
	return false
}

// maker makes documents and questions by chance.
type maker struct{ *rand.Rand }

func (r maker) pick(l ...string) string { return l[r.Intn(len(l))] }

// paths are the few that lead to something, or nowhere.
func (r maker) path() string { return r.pick("n", "m", "t", "at", "at", "l.0", "o.n", "_id") }

func (r maker) number() string { return r.pick("-1", "0", "1", "2", "3", "1.5") }

func (r maker) side() string { return r.pick("-2", "-1", "0", "1", "2", "0.0000001") }

func (r maker) place() string { return "[" + r.side() + "," + r.side() + "]" }

// words are at most so many of a text, by chance.
func (r maker) words(most int) string {
	var l []string
	for range r.Intn(most + 1) {
		l = append(l, r.pick("ship", "ships", "boat", "boats", "the", "of", "line", "town", "ship", "old"))
	}
	return "'" + strings.Join(l, r.pick(" ", ", ")) + "'"
}

func (r maker) shape() string {
	kind := r.pick("Point", "Point", "LineString", "Polygon")
	for {
		l := r.place()
		switch kind {
		case "LineString":
			l = "[" + l + "," + r.place() + "]"
		case "Polygon":
			l = "[[" + l + "," + r.place() + "," + r.place() + "," + l + "]]"
		}
		s := fmt.Sprintf("{'type':'%s','coordinates':%s}", kind, l)
		if _, e := shape.Read(val(s)); e == api.OK {
			return s
		}
	}
}

// value is one of all kinds.
func (r maker) value() string {
	switch r.Intn(12) {
	case 0:
		return r.pick("null", "true", "false", "[]", "{}", "''")
	case 1, 2:
		return r.words(6)
	case 3, 4:
		return r.shape()
	case 5:
		return "[" + r.number() + "," + r.number() + "]"
	case 6:
		return "{'n':" + r.number() + "}"
	case 7:
		return "'" + strings.Repeat("long ", 14) + r.pick("a", "b", "c") + "'"
	}
	return r.number()
}

func (r maker) doc(id int) string {
	l := []string{fmt.Sprint("'_id':", r.pick(fmt.Sprint(id), fmt.Sprintf("'%c'", 'A'+id)))}
	for _, m := range [][2]string{{"n", r.number()}, {"m", r.value()}, {"t", r.words(8)}, {"at", r.shape()}, {"l", "[" + r.value() + "]"}, {"o", "{'n':" + r.value() + "}"}} {
		switch r.Intn(8) {
		case 0:
		case 1:
			l = append(l, "'"+m[0]+"':"+r.value())
		default:
			l = append(l, "'"+m[0]+"':"+m[1])
		}
	}
	return "{" + strings.Join(l, ",") + "}"
}

func (r maker) condition() string {
	box := func() string {
		x, y := r.Intn(4)-2, r.Intn(4)-2
		return fmt.Sprintf("[%d,%d,%d,%d]", x, y, x+r.Intn(3), y+r.Intn(3))
	}
	switch name := r.pick("$eq", "$ne", "$lt", "$lte", "$gt", "$gte", "$in", "$nin", "$exists", "$kind", "$meets", "$within", "$box", "$point", "$point", "$words"); name {
	case "$in", "$nin":
		return "'" + name + "':[" + strings.Join([]string{r.value(), r.value(), r.number()}[:r.Intn(4)], ",") + "]"
	case "$exists":
		return "'$exists':" + r.pick("true", "false")
	case "$kind":
		return "'$kind':'" + r.pick("number", "text", "object") + "'"
	case "$meets":
		return "'$meets':" + r.shape()
	case "$within":
		return "'$within':{'type':'Polygon','coordinates':[[[-2,-2],[1,-2],[1,1],[-2,1],[-2,-2]]]}"
	case "$box", "$point":
		return "'" + name + "':" + box()
	case "$words":
		return "'$words':'" + r.pick("ship", "boats", "town line") + "'"
	default:
		return "'" + name + "':" + r.value()
	}
}

// where is a question of a document, with at most so many others in it.
func (r maker) where(deep int) string {
	var l []string
	for range r.Intn(3) {
		if n := r.Intn(5); n == 0 && deep > 0 {
			l = append(l, "'"+r.pick("$and", "$or")+"':["+r.where(deep-1)+","+r.where(deep-1)+"]")
		} else if n == 1 {
			l = append(l, "'"+r.path()+"':"+r.value())
		} else {
			l = append(l, "'"+r.path()+"':{"+r.condition()+","+r.condition()+"}")
		}
	}
	return "{" + strings.Join(l, ",") + "}"
}

// ask is a question of a sheet; some are none.
func (r maker) ask() string {
	var l []string
	some := func(n int, s string) {
		if r.Intn(n) == 0 {
			l = append(l, s)
		}
	}
	list := func(most int, one func() string) string {
		var items []string
		for range r.Intn(most + 1) {
			items = append(items, one())
		}
		return "[" + strings.Join(items, ",") + "]"
	}
	some(2, "'where':"+r.where(1))
	some(3, "'near':{'path':'"+r.pick("at", "at", "m", "l.0")+"','at':"+r.place()+"}")
	if r.Intn(3) == 0 {
		l = append(l, "'text':{'path':'"+r.pick("t", "t", "m", "l.0")+"'"+r.pick("", ",'words':"+r.words(3))+r.pick("", "", ",'phrases':"+list(2, func() string { return r.words(3) }))+"}")
	}
	some(4, "'sort':"+list(3, func() string { return "['" + r.path() + "'," + r.pick("true", "false") + "]" }))
	some(3, fmt.Sprint("'skip':", r.Intn(5)))
	some(3, fmt.Sprint("'limit':", 1+r.Intn(6)))
	some(4, "'fields':"+list(3, func() string { return "'" + r.path() + "'" }))
	r.Shuffle(len(l), func(i, j int) { l[i], l[j] = l[j], l[i] })
	return "{" + strings.Join(l, ",") + "}"
}

// question is a value that some text tells; false, if none does (as of one with a name twice), or it is no question.
func question(s string) (any, *plan.Ask, bool) {
	v, e := json.Parse([]byte(strings.ReplaceAll(s, "'", `"`)))
	if e != api.OK {
		return nil, nil, false
	}
	a, e := plan.Read(v)
	return v, a, e == api.OK
}

// TestPlansAreTheModel asks by chance, of sheets by chance, and wants the same of all plans.
func TestPlansAreTheModel(t *testing.T) { // P24.1, P24.2, P24.3
	asked, longest := 0, 0
	for turn := range 40 {
		r := maker{rand.New(rand.NewSource(int64(turn)))}
		s, p, _ := made(t)
		var docs []any
		kinds := []string{"order", "cell", "spot", "text"}
		var specs []sheet.Spec
		for _, x := range []string{"order:n", "spot:at", "text:t", "cell:at", "order:m", "order:at", "text:m", "spot:m", "cell:l.0", "order:o.n", "order:_id", "text:l.0", "spot:l.0"} {
			kind, path, _ := strings.Cut(x, ":")
			if r.Intn(2) == 0 && len(specs) < 8 && slices.Contains(kinds, kind) {
				specs = append(specs, sheet.Spec{Kind: kind, Path: path})
			}
		}
		r.Shuffle(len(specs), func(i, j int) { specs[i], specs[j] = specs[j], specs[i] })
		for _, x := range specs {
			want(t, "AddIndex", s.AddIndex(x), api.OK)
		}
		for i := range r.Intn(24) {
			doc := r.doc(i)
			insert(t, s, doc)
			docs = append(docs, val(doc))
		}
		for range r.Intn(8) { // rows are not in the order of documents any more
			if len(docs) > 0 {
				i := r.Intn(len(docs))
				want(t, "Drop", s.Drop(member(docs[i], "_id")), api.OK)
				want(t, "Insert", s.Insert(docs[i]), api.OK)
			}
		}
		want(t, "Commit", p.Commit(), api.OK)
		for range 150 {
			text := r.ask()
			v, a, is := question(text)
			if !is {
				continue
			}
			asked++
			longest = max(longest, wantAnswer(t, s, docs, specs, text, v, a))
		}
	}
	if asked < 2000 || longest < 10 {
		t.Errorf("only %d questions were asked, of at most %d plans", asked, longest)
	}
}

// wantAnswer holds all plans for a question against the model, and tells how many there are.
func wantAnswer(t *testing.T, s *sheet.Sheet, docs []any, specs []sheet.Spec, text string, v any, a *plan.Ask) int {
	t.Helper()
	names := plan.Plans(s, a)
	if wants := plans(specs, v); !slices.Equal(names, wants) {
		t.Fatalf("%s: plans %v, not %v", text, names, wants)
	}
	wants, count := answer(docs, v)
	for _, name := range names {
		l, e := plan.Run(s, a, name)
		if e != api.OK || !slices.EqualFunc(l, wants, func(x, y plan.Found) bool {
			return x.Score == y.Score && x.Near == y.Near && json.Same(x.Doc, y.Doc)
		}) {
			t.Fatalf("%s by %s: %d\n%v\nnot\n%v", text, name, e, l, wants)
		}
	}
	if n, e := plan.Count(s, a); n != count || e != api.OK {
		t.Fatalf("%s: %d, %d, not %d", text, n, e, count)
	}
	return len(names)
}
