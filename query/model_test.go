package query_test

import (
	"bytes"
	"math/rand"
	"slices"
	"strconv"
	"strings"
	"testing"

	"waywiser/api"
	"waywiser/geom"
	"waywiser/index"
	"waywiser/json"
	"waywiser/order"
	"waywiser/query"
	"waywiser/shape"
)

// true of a document: by the chapter's tables, gone through as they stand.
func truth(q, doc any) bool {
	for _, m := range q.(json.Object) {
		if !truthOfMember(m, doc) {
			return false
		}
	}
	return true
}

func truthOfMember(m json.Member, doc any) bool {
	switch m.Name {
	case "$and":
		for _, q := range m.Value.(json.List) {
			if !truth(q, doc) {
				return false
			}
		}
		return true
	case "$or":
		for _, q := range m.Value.(json.List) {
			if truth(q, doc) {
				return true
			}
		}
		return false
	case "$not":
		return !truth(m.Value, doc)
	}
	x, there := lead(doc, m.Name)
	o, _ := m.Value.(json.Object)
	if len(o) == 0 || slices.ContainsFunc(o, func(c json.Member) bool { return c.Name == "" || c.Name[0] != '$' }) {
		return there && json.Same(x, m.Value)
	}
	for _, c := range o {
		if !truthOfCondition(c.Name, c.Value, x, there) {
			return false
		}
	}
	return true
}

// lead tells what a path leads to.
func lead(v any, p string) (any, bool) {
	for _, step := range strings.Split(p, ".") {
		i, err := strconv.Atoi(step)
		switch x := v.(type) {
		case json.Object:
			at := slices.IndexFunc(x, func(m json.Member) bool { return m.Name == step })
			if at < 0 {
				return nil, false
			}
			v = x[at].Value
		case json.List:
			if err != nil || i < 0 || i >= len(x) || step != strconv.Itoa(i) {
				return nil, false
			}
			v = x[i]
		default:
			return nil, false
		}
	}
	return v, true
}

func truthOfCondition(name string, value, x any, there bool) bool {
	if !there {
		return name == "$ne" || name == "$nin" || name == "$exists" && value == false
	}
	key, _ := order.Key(x)
	other, _ := order.Key(value)
	sign := bytes.Compare(key, other)
	kind := kindOf(key[0])
	s, e := shape.Read(x)
	isShape := e == api.OK
	t, _ := shape.Read(value)
	switch name {
	case "$eq":
		return sign == 0
	case "$ne":
		return sign != 0
	case "$lt", "$lte", "$gt", "$gte":
		return kind == kindOf(other[0]) && (sign < 0 && name[1] == 'l' || sign > 0 && name[1] == 'g' || sign == 0 && strings.HasSuffix(name, "e"))
	case "$in", "$nin":
		in := slices.ContainsFunc(value.(json.List), func(y any) bool { return json.Same(x, y) })
		return in == (name == "$in")
	case "$exists":
		return value == true
	case "$kind":
		return kind == value
	case "$within":
		return isShape && shape.Within(s, t)
	case "$meets":
		return isShape && shape.Meet(s, t)
	case "$box", "$point":
		l := value.(json.List)
		n := func(i int) int64 { return int64(l[i].(json.Num)) }
		return isShape && geom.Overlap(shape.Box(s), api.Rect{MinX: n(0), MinY: n(1), MaxX: n(2), MaxY: n(3)}) && (name == "$box" || s.Kind == shape.Spot)
	case "$words":
		text, ok := x.(string)
		return ok && hasTerms(text, value.(string))
	}
	panic(name)
}

// kindOf is the kind of values whose keys begin with a byte.
func kindOf(first byte) string {
	return strings.Fields("null bool bool number text list object")[first-1]
}

// hasTerms: has a text all terms of another one?
func hasTerms(text, want string) bool {
	terms, _ := index.Terms(text)
	wanted, _ := index.Terms(want)
	return !slices.ContainsFunc(wanted, func(w index.Term) bool {
		return !slices.ContainsFunc(terms, func(x index.Term) bool { return x.Text == w.Text })
	})
}

// maker makes values by chance.
type maker struct{ *rand.Rand }

func (r maker) pick(l ...string) string { return l[r.Intn(len(l))] }

func (r maker) path() string { return r.pick("a", "b", "a.b", "c", "c.0", "c.1", "a.b.0", "t") }

// number is one of a few.
func (r maker) number() json.Num { return json.Num(r.Intn(4) * api.Scale) }

func (r maker) text() string {
	return r.pick("", "a", "ship", "The ships", "a boat, two ships", "boats", "ship", "of the", "two")
}

func (r maker) list(n int, of func() any) json.List {
	l := json.List{}
	for range n {
		l = append(l, of())
	}
	return l
}

func (r maker) place() any { return json.List{r.number(), r.number()} }

// shaped is a shape's value; of the kind, if it isn't "".
func (r maker) shaped(kind string) any {
	if kind == "" {
		kind = r.pick("Point", "LineString", "Polygon")
	}
	for {
		v := json.Object{{Name: "type", Value: kind}, {Name: "coordinates"}}
		switch kind {
		case "Point":
			v[1].Value = r.place()
		case "LineString":
			v[1].Value = r.list(2+r.Intn(2), r.place)
		default:
			l := r.list(3+r.Intn(2), r.place)
			v[1].Value = json.List{append(l, l[0])}
		}
		if _, e := shape.Read(v); e == api.OK {
			return v
		}
	}
}

// value is one of all kinds, at most so deep (shapes are deeper).
func (r maker) value(deep int) any {
	switch n := r.Intn(10); {
	case n < 2:
		return r.number()
	case n < 4:
		return r.text()
	case n == 4:
		return r.shaped("")
	case n == 5:
		return r.Intn(2) == 0
	case n == 6 || deep == 0:
		return nil
	case n < 9:
		return r.list(r.Intn(3), func() any { return r.value(deep - 1) })
	}
	return r.object(deep - 1)
}

func (r maker) object(deep int) json.Object {
	o := json.Object{}
	for _, name := range strings.Fields("a b c t") {
		if r.Intn(3) > 0 {
			o = append(o, json.Member{Name: name, Value: r.value(deep)})
		}
	}
	r.Shuffle(len(o), func(i, j int) { o[i], o[j] = o[j], o[i] })
	return o
}

// condition is the value of one of that name.
func (r maker) condition(name string) any {
	switch name {
	case "$in", "$nin":
		return r.list(r.Intn(4), func() any { return r.value(1) })
	case "$exists":
		return r.Intn(2) == 0
	case "$kind":
		return r.pick("null", "bool", "number", "text", "list", "object")
	case "$within":
		return r.shaped("Polygon")
	case "$meets":
		return r.shaped("")
	case "$box", "$point":
		x, y := r.number(), r.number()
		return json.List{x, y, x + r.number(), y + r.number()}
	case "$words":
		return r.pick("ship", "ships of boats", "two", "the boat", "a ship, a boat, two")
	}
	return r.value(2)
}

func (r maker) conditions() json.Object {
	names := strings.Fields("$eq $ne $lt $lte $gt $gte $in $nin $exists $kind $within $meets $box $point $words")
	o := json.Object{}
	for _, i := range r.Perm(len(names))[:1+r.Intn(2)] {
		o = append(o, json.Member{Name: names[i], Value: r.condition(names[i])})
	}
	return o
}

// question is one with at most so many others within one another.
func (r maker) question(deep int) json.Object {
	o := json.Object{}
	add := func(name string, v any) {
		if !slices.ContainsFunc(o, func(m json.Member) bool { return m.Name == name }) {
			o = append(o, json.Member{Name: name, Value: v})
		}
	}
	for range r.Intn(3) {
		switch n := r.Intn(8); {
		case n == 0:
			add(r.path(), r.value(2))
		case n < 5 || deep == 0:
			add(r.path(), r.conditions())
		case n == 5:
			add("$not", r.question(deep-1))
		default:
			add(r.pick("$and", "$or"), r.list(1+r.Intn(3), func() any { return r.question(deep - 1) }))
		}
	}
	return o
}

func TestQuestionsByChance(t *testing.T) { // P21.1, P21.3
	r := maker{rand.New(rand.NewSource(21))}
	right, less := 0, 0
	for range 15000 {
		v := r.question(3)
		q := ask(t, v)
		for range 4 {
			doc := r.object(2)
			got, want := q.Match(doc), truth(v, doc)
			if got != want {
				t.Fatalf("%s of %s: %t", print(v), print(doc), got)
			}
			if len(v) > 0 && got {
				right++
			}
			if !got {
				less++
			}
			if got {
				meetsAll(t, q, doc)
			}
			if n := ask(t, json.Object{{Name: "$not", Value: v}}); n.Match(doc) == got {
				t.Fatalf("not %s of %s: %t", print(v), print(doc), got)
			}
		}
	}
	if right < 5000 || less < 5000 {
		t.Errorf("%d times true, %d not", right, less)
	}
}

// meetsAll: a document of which a question is true meets all its conditions, each by itself.
func meetsAll(t *testing.T, q *query.Query, doc any) { // P21.3
	t.Helper()
	for _, c := range q.Conditions() {
		v := json.Object{{Name: c.Path, Value: json.Object{{Name: c.Name, Value: c.Value}}}}
		if !ask(t, v).Match(doc) {
			t.Fatalf("%s does not meet %s", print(doc), print(v))
		}
	}
}

func TestTheOrderDoesNotCount(t *testing.T) { // P21.3
	r := maker{rand.New(rand.NewSource(3))}
	for range 3000 {
		l := r.list(1+r.Intn(4), func() any { return r.question(2) })
		turned := slices.Clone(l)
		r.Shuffle(len(l), func(i, j int) { turned[i], turned[j] = turned[j], turned[i] })
		doc := r.object(2)
		for _, name := range []string{"$and", "$or"} {
			a, b := ask(t, json.Object{{Name: name, Value: l}}), ask(t, json.Object{{Name: name, Value: turned}})
			if a.Match(doc) != b.Match(doc) {
				t.Fatalf("%s of %s and %s: %t", name, print(l), print(turned), a.Match(doc))
			}
		}
	}
}

func TestConditionsByChance(t *testing.T) { // P21.2
	r := maker{rand.New(rand.NewSource(2))}
	for range 3000 {
		v := r.question(2)
		var want []string
		for _, m := range v {
			if m.Name[0] == '$' {
				continue
			}
			o, _ := m.Value.(json.Object)
			if len(o) == 0 || o[0].Name[0] != '$' {
				o = json.Object{{Name: "$eq", Value: m.Value}}
			}
			for _, c := range o {
				want = append(want, m.Name+" "+c.Name+" "+print(c.Value))
			}
		}
		if got := told(ask(t, v)); !slices.Equal(got, want) {
			t.Fatalf("conditions of %s: %q", print(v), got)
		}
	}
}

// mayBe: is a value a question? And how many members and conditions has it?
func mayBe(v any) (bool, int) {
	o, ok := v.(json.Object)
	n := 0
	for _, m := range o {
		is, more := mayBeMember(m)
		ok = ok && is
		n += more
	}
	return ok, n
}

func mayBeMember(m json.Member) (bool, int) {
	l, _ := m.Value.(json.List)
	switch m.Name {
	case "$and", "$or":
		ok, n := len(l) > 0, 1
		for _, q := range l {
			is, more := mayBe(q)
			ok = ok && is
			n += more
		}
		return ok, n
	case "$not":
		ok, n := mayBe(m.Value)
		return ok, n + 1
	}
	if strings.HasPrefix(m.Name, "$") || m.Name == "" || len(m.Name) > 128 || slices.Contains(strings.Split(m.Name, "."), "") {
		return false, 1
	}
	o, _ := m.Value.(json.Object)
	if len(o) == 0 || slices.ContainsFunc(o, func(c json.Member) bool { return !strings.HasPrefix(c.Name, "$") }) {
		return true, 1
	}
	return !slices.ContainsFunc(o, func(c json.Member) bool { return !mayBeCondition(c.Name, c.Value) }), 1 + len(o)
}

func mayBeCondition(name string, v any) bool {
	s, e := shape.Read(v)
	l, isList := v.(json.List)
	text, _ := v.(string)
	switch name {
	case "$eq", "$ne", "$lt", "$lte", "$gt", "$gte":
		return true
	case "$in", "$nin":
		return isList
	case "$exists":
		return v == true || v == false
	case "$kind":
		return slices.Contains(strings.Fields("null bool number text list object"), text)
	case "$within":
		return e == api.OK && s.Kind == shape.Polygon
	case "$meets":
		return e == api.OK
	case "$box", "$point":
		var n [4]int64
		for i, x := range l {
			k, ok := x.(json.Num)
			if !ok || len(l) != 4 {
				return false
			}
			n[i] = int64(k)
		}
		return len(l) == 4 && geom.MayRect(api.Rect{MinX: n[0], MinY: n[1], MaxX: n[2], MaxY: n[3]})
	case "$words":
		terms, _ := index.Terms(text)
		return len(terms) > 0
	}
	return false
}

// all are the places of a value, and of all that is in it.
func all(v *any) []*any {
	out := []*any{v}
	switch x := (*v).(type) {
	case json.List:
		for i := range x {
			out = append(out, all(&x[i])...)
		}
	case json.Object:
		for i := range x {
			out = append(out, all(&x[i].Value)...)
		}
	}
	return out
}

// spoil changes a value somewhere: it puts something else there, or gives a member another name.
func (r maker) spoil(v any) any {
	places := all(&v)
	at := places[r.Intn(len(places))]
	if o, ok := (*at).(json.Object); ok && len(o) > 0 && r.Intn(2) == 0 {
		o[r.Intn(len(o))].Name = r.pick("", ".", "$", "a", "a..b", "$foo", "$and", "$or", "$not", "$gt", "$in", "$box", "$kind", "$words", "$exists", "b.c")
		return v
	}
	switch r.Intn(3) {
	case 0:
		*at = r.value(2)
	case 1:
		*at = r.conditions()
	default:
		*at = r.question(1)
	}
	return v
}

func TestReadByChance(t *testing.T) { // P21.1, R1
	r := maker{rand.New(rand.NewSource(5))}
	right, less := 0, 0
	for range 40000 {
		v := any(r.question(3))
		for range r.Intn(3) {
			v = r.spoil(v)
		}
		is, n := mayBe(v)
		is = is && n <= 100 && json.May(v) == api.OK
		q, e := query.Read(v)
		if (e == api.OK) != is || (q != nil) != is || !is && e != api.ErrQuery {
			t.Fatalf("Read(%s): %d", print(v), e)
		}
		if is {
			right++
		} else {
			less++
		}
	}
	if right < 5000 || less < 5000 {
		t.Errorf("%d questions, %d others", right, less)
	}
}
