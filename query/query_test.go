package query_test

import (
	"fmt"
	"math"
	"slices"
	"strings"
	"testing"

	"waywiser/api"
	"waywiser/json"
	"waywiser/query"
)

const most = 9_000_000_000_000_000_000

// read is the value of a JSON text that is one.
func read(s string) any {
	v, e := json.Parse([]byte(s))
	if e != api.OK {
		panic(s)
	}
	return v
}

// print is the text of a value, or how Go tells it, if it may not be.
func print(v any) string {
	b, e := json.Print(v)
	if e != api.OK {
		b = fmt.Appendf(nil, "%#v", v)
	}
	return string(b[:min(len(b), 300)])
}

// ask is a question that is one.
func ask(t *testing.T, v any) *query.Query {
	t.Helper()
	q, e := query.Read(v)
	if e != api.OK || q == nil {
		t.Fatalf("Read(%s): %v, %d", print(v), q, e)
	}
	return q
}

// faults are values that may not be.
func faults() []any {
	type text string
	n := json.Num(1)
	within := json.List{nil}
	within[0] = within
	deep := any(json.List{})
	for range 32 {
		deep = json.List{deep}
	}
	return []any{5, 1.5, int64(1), []any{}, []any{nil}, map[string]any{}, map[string]any{"a": nil}, struct{}{}, json.Member{Name: "a"}, []json.Member{}, text("x"), &n, (*json.Num)(nil), &json.Object{}, (*json.Object)(nil), func() {}, api.OK, json.Num(most + 1), json.Num(math.MinInt64), "\xff", within, deep, json.List{1}, json.Object{{Name: "\xff"}}, json.Object{{Name: "a"}, {Name: "a"}}, json.Object{{Name: "a", Value: 5}}}
}

const (
	square = `{"type":"Polygon","coordinates":[[[0,0],[10,0],[10,10],[0,10],[0,0]]]}`
	holed  = `{"type":"Polygon","coordinates":[[[0,0],[10,0],[10,10],[0,10],[0,0]],[[4,4],[6,4],[6,6],[4,6],[4,4]]]}`
)

func spot(x, y string) string { return `{"type":"Point","coordinates":[` + x + `,` + y + `]}` }

func line(places string) string {
	return `{"coordinates":[` + places + `],"type":"LineString"}`
}

// nowhere are conditions that are true of what a path leads to, if that is nowhere.
var nowhere = []string{"$ne", "$nin"}

// cases: of a condition, values of which it is true, and of which it is not.
var cases = []struct {
	condition   string
	right, less []string
}{
	{`"$eq":1`, []string{`1`, `1.0`, `10e-1`}, []string{`2`, `"1"`, `[1]`, `true`, `null`, `1.0000001`, `{"a":1}`}},
	{`"$eq":null`, []string{`null`}, []string{`false`, `0`, `""`, `[]`, `{}`}},
	{`"$eq":{"a":1,"b":2}`, []string{`{"a":1,"b":2}`}, []string{`{"b":2,"a":1}`, `{"a":1}`, `{"a":1,"b":2,"c":3}`, `{}`}},
	{`"$eq":[1,[2]]`, []string{`[1,[2]]`}, []string{`[1,2]`, `[[2],1]`, `[1,[2],3]`, `1`, `[]`}},
	{`"$eq":{}`, []string{`{}`}, []string{`{"a":1}`, `[]`, `null`}},
	{`"$eq":{"$gt":1}`, []string{`{"$gt":1}`}, []string{`2`, `1`}},
	{`"$ne":1`, []string{`2`, `"1"`, `null`, `[1]`, `{}`}, []string{`1`, `1.0`}},
	{`"$ne":null`, []string{`0`, `false`, `""`}, []string{`null`}},
	{`"$lt":5`, []string{`4.9999999`, `-900000000000`, `0`}, []string{`5`, `6`, `null`, `false`, `true`, `""`, `"4"`, `[4]`, `{}`}},
	{`"$lte":5`, []string{`5`, `4`}, []string{`5.0000001`, `null`, `false`, `"5"`, `[]`}},
	{`"$gt":5`, []string{`5.0000001`, `900000000000`}, []string{`5`, `4`, `"6"`, `[6]`, `{}`, `true`, `null`}},
	{`"$gte":5`, []string{`5`, `6`}, []string{`4.9999999`, `"6"`, `[6]`, `{}`}},
	{`"$lt":true`, []string{`false`}, []string{`true`, `null`, `0`}},
	{`"$lte":true`, []string{`false`, `true`}, []string{`null`, `0`, `""`}},
	{`"$gt":false`, []string{`true`}, []string{`false`, `null`, `0`, `1`, `"a"`}},
	{`"$gte":false`, []string{`true`, `false`}, []string{`null`, `0`}},
	{`"$lt":false`, nil, []string{`true`, `false`, `null`, `0`}},
	{`"$lt":null`, nil, []string{`null`, `false`, `0`}},
	{`"$lte":null`, []string{`null`}, []string{`false`, `0`, `""`}},
	{`"$gte":null`, []string{`null`}, []string{`false`, `0`, `""`, `{}`}},
	{`"$gt":null`, nil, []string{`null`, `false`, `0`, `{}`}},
	{`"$lt":"b"`, []string{`"a"`, `""`, `"az"`, `"B"`}, []string{`"b"`, `"ba"`, `"é"`, `0`, `null`, `[]`}},
	{`"$gte":"b"`, []string{`"b"`, `"b\u0000"`, `"é"`}, []string{`"a"`, `[]`, `{}`, `9`}},
	{`"$lt":[1,2]`, []string{`[]`, `[1]`, `[1,1,9]`, `[null,5]`}, []string{`[1,2]`, `[1,2,0]`, `[2]`, `["a"]`, `{}`, `1`}},
	{`"$gt":{"b":1}`, []string{`{"c":0}`, `{"b":2}`, `{"b":1,"a":0}`, `{"b":"a"}`}, []string{`{"b":1}`, `{"a":9}`, `{}`, `{"b":0,"c":1}`, `[]`}},
	{`"$in":[1,"a",null,[2]]`, []string{`1`, `"a"`, `null`, `[2]`}, []string{`2`, `"b"`, `[]`, `[1]`, `false`, `[1,"a",null,[2]]`}},
	{`"$in":[]`, nil, []string{`null`, `[]`, `1`}},
	{`"$nin":[1,"a",null,[2]]`, []string{`2`, `"b"`, `[]`, `false`}, []string{`1`, `"a"`, `null`, `[2]`}},
	{`"$nin":[]`, []string{`null`, `[]`, `1`}, nil},
	{`"$exists":true`, []string{`null`, `false`, `0`, `""`, `[]`, `{}`}, nil},
	{`"$exists":false`, nil, []string{`null`, `false`, `0`, `""`, `[]`, `{}`}},
	{`"$kind":"null"`, []string{`null`}, []string{`false`, `0`, `""`, `[]`, `{}`}},
	{`"$kind":"bool"`, []string{`true`, `false`}, []string{`null`, `0`, `"true"`}},
	{`"$kind":"number"`, []string{`0`, `-1.5`}, []string{`null`, `"0"`, `[0]`}},
	{`"$kind":"text"`, []string{`""`, `"text"`}, []string{`null`, `0`, `["text"]`}},
	{`"$kind":"list"`, []string{`[]`, `[1]`}, []string{`{}`, `null`, `"[]"`}},
	{`"$kind":"object"`, []string{`{}`, `{"a":1}`}, []string{`[]`, `null`}},
	{`"$within":` + square, []string{spot("5", "5"), spot("0", "0"), spot("10", "5"), line(`[1,1],[9,9]`), line(`[0,0],[10,0]`), square, holed}, []string{spot("10.0000001", "5"), line(`[1,1],[11,1]`), `null`, `5`, `"x"`, `[5,5]`, `{}`, `{"type":"Point"}`, `{"type":"Point","coordinates":[5,5],"more":1}`, `{"type":"Point","coordinates":[5]}`, `{"type":"Point","coordinates":[181,0]}`}},
	{`"$within":` + holed, []string{spot("1", "1"), spot("4", "5"), line(`[1,1],[3,3]`)}, []string{spot("5", "5"), line(`[1,1],[5,5]`), line(`[1,5],[9,5]`)}},
	{`"$meets":` + square, []string{spot("5", "5"), spot("10", "10"), line(`[-5,5],[15,5]`), line(`[10,10],[20,20]`), square, holed}, []string{spot("11", "5"), line(`[11,0],[11,10]`), `null`, `[5,5]`, `{}`}},
	{`"$meets":` + holed, []string{spot("1", "1"), line(`[5,5],[5,7]`)}, []string{spot("5", "5"), line(`[4.5,5],[5.5,5]`)}},
	{`"$meets":` + spot("1.5", "-2"), []string{spot("1.5", "-2"), line(`[0,-2],[2,-2]`), `{"coordinates":[1.5,-2],"type":"Point"}`}, []string{spot("1.5", "-2.0000001"), square}},
	{`"$meets":` + line(`[0,0],[4,4]`), []string{spot("2", "2"), line(`[0,4],[4,0]`), square}, []string{spot("2", "2.0000001"), line(`[0,1],[3,4]`)}},
	{`"$box":[0,0,10,10]`, []string{spot("0", "0"), spot("10", "10"), spot("5", "5"), line(`[-5,5],[0,0]`), line(`[-5,-5],[20,20]`), line(`[-1,9],[1,12]`), square}, []string{spot("-0.0000001", "5"), spot("5", "10.0000001"), line(`[11,0],[12,10]`), line(`[0,-2],[10,-1]`), `null`, `[5,5]`, `{"type":"Point","coordinates":[5,5,5]}`}},
	{`"$box":[5,5,5,5]`, []string{spot("5", "5"), square, holed, line(`[0,0],[9,9]`), line(`[0,9],[9,0]`)}, []string{spot("5", "5.0000001"), spot("4.9999999", "5")}},
	{`"$box":[-180,-90,180,90]`, []string{spot("-180", "-90"), spot("180", "90"), square}, []string{`{}`, `0`}},
	{`"$point":[0,0,10,10]`, []string{spot("0", "0"), spot("10", "10"), spot("0", "10"), spot("5", "5")}, []string{spot("10.0000001", "5"), spot("5", "-1"), line(`[1,1],[2,2]`), square, `[5,5]`, `null`, `{"type":"Point","coordinates":[5,5],"x":0}`}},
	{`"$point":[5,-5,5,-5]`, []string{spot("5", "-5")}, []string{spot("5", "5"), spot("-5", "5")}},
	{`"$words":"ships"`, []string{`"The ship"`, `"SHIPPED, shipping"`, `"a ship's"`}, []string{`""`, `"shippers"`, `"sheep"`, `["ships"]`, `null`, `5`, `{"ships":"ships"}`}},
	{`"$words":"the Boat of ships, ships"`, []string{`"shipped boats"`, `"a boat, a house, a ship"`}, []string{`"ships"`, `"boats"`, `"the of"`}},
	{`"$words":"Größe 42"`, []string{`"42 grosse"`, `"GROSSE 42"`}, []string{`"gross"`, `"42"`}},
	{`"$words":"ins"`, []string{`"ins"`}, []string{`"in"`, `"in it"`}},
	{`"$words":"日本"`, []string{`"日本"`, `"a 日本!"`}, []string{`"日"`, `"日 本"`}},
}

func TestConditions(t *testing.T) { // P21.1
	for _, c := range cases {
		q := ask(t, read(`{"a.b":{`+c.condition+`}}`))
		name := c.condition[1:strings.Index(c.condition, `":`)]
		for _, v := range c.right {
			if doc := read(`{"x":1,"a":{"b":` + v + `}}`); !q.Match(doc) {
				t.Errorf("{%s} is not true of %s", c.condition, v)
			}
		}
		for _, v := range c.less {
			if doc := read(`{"a":{"b":` + v + `}}`); q.Match(doc) {
				t.Errorf("{%s} is true of %s", c.condition, v)
			}
		}
		none := slices.Contains(nowhere, name) || c.condition == `"$exists":false`
		for _, doc := range []string{`{}`, `{"a":{}}`, `{"a":5}`, `{"a":null}`, `{"a":[1,2]}`, `{"b":1}`, `{"a.b":1}`, `{"a":{"b.c":1}}`} {
			if q.Match(read(doc)) != none {
				t.Errorf("{%s} of %s, where the path leads nowhere: %t", c.condition, doc, !none)
			}
		}
	}
}

func TestMatch(t *testing.T) { // P21.1
	for _, c := range []struct {
		question    string
		right, less []string
	}{
		{`{}`, []string{`{}`, `{"a":1}`}, nil},
		{`{"a":{"$gte":1,"$lt":5},"b.c":"x"}`, []string{`{"a":3,"b":{"c":"x"}}`, `{"b":{"c":"x"},"a":1}`}, []string{`{"a":5,"b":{"c":"x"}}`, `{"a":0,"b":{"c":"x"}}`, `{"a":3,"b":{"c":"y"}}`, `{"a":3}`, `{}`, `{"a":3,"b.c":"x"}`}},
		{`{"t":{"$words":"ships"}}`, []string{`{"t":"The ship"}`}, []string{`{"t":"The boat"}`}},
		{`{"a":1}`, []string{`{"a":1}`}, []string{`{"a":2}`, `{}`, `{"a":[1]}`}},
		{`{"a":null}`, []string{`{"a":null}`}, []string{`{}`, `{"a":0}`}},
		{`{"a":{}}`, []string{`{"a":{}}`}, []string{`{"a":{"b":1}}`, `{}`, `{"a":[]}`}},
		{`{"a":{"b":1}}`, []string{`{"a":{"b":1}}`}, []string{`{"a":{"b":1,"c":2}}`}},
		{`{"a":{"$gt":1,"b":2}}`, []string{`{"a":{"$gt":1,"b":2}}`}, []string{`{"a":2}`, `{"a":{"b":2}}`}},
		{`{"a":{"b":2,"$foo":1}}`, []string{`{"a":{"b":2,"$foo":1}}`}, []string{`{"a":2}`}},
		{`{"a":[{"$foo":1}]}`, []string{`{"a":[{"$foo":1}]}`}, []string{`{"a":1}`}},
		{`{"a":{"":1}}`, []string{`{"a":{"":1}}`}, []string{`{"a":1}`}},
		{`{"a.0":5,"a.1.b":6}`, []string{`{"a":[5,{"b":6}]}`, `{"a":{"0":5,"1":{"b":6}}}`}, []string{`{"a":[5]}`, `{"a":[5,6]}`}},
		{`{"a.$b":1}`, []string{`{"a":{"$b":1}}`}, []string{`{"a":1}`}},
		{`{"a":{"$in":[1,2,3],"$nin":[2],"$ne":3}}`, []string{`{"a":1}`}, []string{`{"a":2}`, `{"a":3}`, `{}`}},
		{`{"a":{"$exists":true,"$ne":1}}`, []string{`{"a":2}`}, []string{`{}`, `{"a":1}`}},
		{`{"a":{"$exists":false,"$ne":1,"$nin":[2]}}`, []string{`{}`, `{"b":1}`}, []string{`{"a":5}`}},
		{`{"$and":[{"a":1}]}`, []string{`{"a":1}`}, []string{`{"a":2}`}},
		{`{"$and":[{"a":1},{"b":2}]}`, []string{`{"a":1,"b":2}`}, []string{`{"a":1}`, `{"b":2}`, `{}`}},
		{`{"$or":[{"a":1}]}`, []string{`{"a":1}`}, []string{`{"a":2}`}},
		{`{"$or":[{"a":1},{"b":2}]}`, []string{`{"a":1}`, `{"b":2}`, `{"a":1,"b":2}`}, []string{`{}`, `{"a":2,"b":1}`}},
		{`{"$or":[{"a":1,"c":3},{"b":2}]}`, []string{`{"a":1,"c":3}`, `{"b":2}`}, []string{`{"a":1}`, `{"c":3}`}},
		{`{"$not":{"a":1}}`, []string{`{}`, `{"a":2}`}, []string{`{"a":1}`, `{"a":1,"b":2}`}},
		{`{"$not":{}}`, nil, []string{`{}`, `{"a":1}`}},
		{`{"$not":{"$not":{"a":1}}}`, []string{`{"a":1}`}, []string{`{}`}},
		{`{"$not":{"a":1,"b":2}}`, []string{`{"a":1}`, `{"b":2}`, `{}`}, []string{`{"a":1,"b":2}`}},
		{`{"$not":{"a":{"$lt":5}}}`, []string{`{}`, `{"a":5}`, `{"a":"x"}`}, []string{`{"a":4}`}},
		{`{"a":1,"$or":[{"b":1},{"b":2}],"$not":{"c":3},"$and":[{"d":{"$exists":true}}]}`, []string{`{"a":1,"b":2,"d":0}`, `{"a":1,"b":1,"c":4,"d":null}`}, []string{`{"a":1,"b":2}`, `{"a":1,"b":3,"d":0}`, `{"a":1,"b":2,"c":3,"d":0}`, `{"a":2,"b":2,"d":0}`}},
		{`{"$or":[{},{"a":1}]}`, []string{`{}`}, nil},
		{`{"$and":[{},{"$or":[{"a":1},{"$and":[{"b":2},{"c":3}]}]}]}`, []string{`{"a":1}`, `{"b":2,"c":3}`}, []string{`{"b":2}`, `{"c":3}`}},
	} {
		q := ask(t, read(c.question))
		for _, doc := range c.right {
			if !q.Match(read(doc)) {
				t.Errorf("%s is not true of %s", c.question, doc)
			}
		}
		for _, doc := range c.less {
			if q.Match(read(doc)) {
				t.Errorf("%s is true of %s", c.question, doc)
			}
		}
	}
}

func TestMatchOfNoDocument(t *testing.T) { // P21.1, R1
	for _, s := range []string{`{}`, `{"$not":{"a":1}}`, `{"a":{"$exists":false}}`, `{"0":{"$ne":1}}`, `{"$or":[{"a":{"$nin":[]}},{}]}`} {
		q := ask(t, read(s))
		for _, v := range append(faults(), nil, true, json.Num(1), "x", json.List{}, json.List{json.Object{}}) {
			if q.Match(v) {
				t.Errorf("%s is true of %s", s, print(v))
			}
		}
		if !q.Match(json.Object(nil)) {
			t.Errorf("%s is not true of an empty object", s)
		}
	}
}

func TestNil(t *testing.T) { // P21.1, P21.2, R1
	var q *query.Query
	if q.Match(json.Object{}) || q.Match(nil) || len(q.Conditions()) > 0 {
		t.Error("nil is true of something, or has conditions")
	}
}

func TestNoQuestion(t *testing.T) { // P21.1
	refused := func(v any) {
		t.Helper()
		if q, e := query.Read(v); q != nil || e != api.ErrQuery {
			t.Errorf("Read(%s): %v, %d", print(v), q, e)
		}
	}
	for _, s := range []string{
		`null`, `true`, `5`, `"a"`, `[]`, `[{}]`, `{"$foo":1}`, `{"$":1}`, `{"$eq":1}`, `{"$exists":true}`, `{"$AND":[{}]}`, `{"$and":[]}`, `{"$and":{}}`, `{"$and":null}`, `{"$and":[1]}`, `{"$and":[{},null]}`, `{"$and":[[{}]]}`, `{"$or":[]}`, `{"$or":{"a":1}}`, `{"$or":"a"}`, `{"$or":[{},{"$or":[]}]}`, `{"$or":[{"$foo":1}]}`, `{"$not":[]}`, `{"$not":[{}]}`, `{"$not":null}`, `{"$not":1}`, `{"$not":{"$foo":1}}`, `{"$nor":[{}]}`, `{"$a.b":1}`, `{"$where":{}}`,
		`{"":1}`, `{".":1}`, `{"a.":1}`, `{".a":1}`, `{"a..b":1}`, `{"` + strings.Repeat("a", 129) + `":1}`, `{"a":1,"":{"$eq":1}}`,
		`{"a":{"$foo":1}}`, `{"a":{"$":1}}`, `{"a":{"$gt":1,"$foo":1}}`, `{"a":{"$and":[{}]}}`, `{"a":{"$or":[{}]}}`, `{"a":{"$not":{}}}`, `{"a":{"$GT":1}}`, `{"a":{"$eq ":1}}`, `{"a":{"$not":{"$gt":1}}}`,
		`{"a":{"$in":1}}`, `{"a":{"$in":null}}`, `{"a":{"$in":{}}}`, `{"a":{"$in":"a"}}`, `{"a":{"$nin":1}}`, `{"a":{"$nin":{}}}`, `{"a":{"$exists":1}}`, `{"a":{"$exists":null}}`, `{"a":{"$exists":"true"}}`, `{"a":{"$exists":[]}}`,
		`{"a":{"$kind":""}}`, `{"a":{"$kind":"Null"}}`, `{"a":{"$kind":"string"}}`, `{"a":{"$kind":null}}`, `{"a":{"$kind":["text"]}}`, `{"a":{"$kind":1}}`,
		`{"a":{"$within":` + spot("1", "1") + `}}`, `{"a":{"$within":` + line("[0,0],[1,1]") + `}}`, `{"a":{"$within":null}}`, `{"a":{"$within":[0,0,1,1]}}`, `{"a":{"$within":{}}}`, `{"a":{"$within":{"type":"Polygon","coordinates":[[[0,0],[10,10],[10,0],[0,10],[0,0]]]}}}`,
		`{"a":{"$meets":null}}`, `{"a":{"$meets":[1,1]}}`, `{"a":{"$meets":{"type":"Point","coordinates":[181,0]}}}`, `{"a":{"$meets":{"type":"Point","coordinates":[1,0],"x":1}}}`, `{"a":{"$meets":{"type":"point","coordinates":[1,0]}}}`,
		`{"a":{"$words":""}}`, `{"a":{"$words":"the of"}}`, `{"a":{"$words":"!?"}}`, `{"a":{"$words":null}}`, `{"a":{"$words":["ship"]}}`, `{"a":{"$words":5}}`,
	} {
		refused(read(s))
	}
	for _, name := range []string{"$box", "$point"} {
		for _, s := range []string{`null`, `5`, `"a"`, `{}`, `[]`, `[0,0,1]`, `[0,0,1,1,1]`, `[0,0,1,"1"]`, `[null,0,1,1]`, `[[0,0],[1,1]]`, `[1,0,0,1]`, `[0,1,1,0]`, `[0.0000001,0,0,0]`, `[-181,0,1,1]`, `[-180.0000001,0,1,1]`, `[0,-90.0000001,1,1]`, `[0,0,180.0000001,1]`, `[0,0,1,90.0000001]`, `[200,0,201,1]`, `[0,91,0,92]`, spot("1", "1")} {
			refused(read(`{"a":{"` + name + `":` + s + `}}`))
		}
	}
	for _, v := range faults() {
		refused(v)
		refused(json.Object{{Name: "a", Value: v}})
		refused(json.Object{{Name: "a", Value: json.Object{{Name: "$ne", Value: v}}}})
		refused(json.Object{{Name: "$not", Value: v}})
		refused(json.Object{{Name: "$and", Value: json.List{json.Object{}, v}}})
	}
}

// notted is a question within so many $not.
func notted(q any, n int) any {
	for range n {
		q = json.Object{{Name: "$not", Value: q}}
	}
	return q
}

func TestDeep(t *testing.T) { // P21.1: 32 questions within one another
	for n := range 32 {
		q := ask(t, notted(json.Object{{Name: "a", Value: true}}, n))
		if q.Match(read(`{"a":true}`)) != (n%2 == 0) || q.Match(json.Object{}) != (n%2 == 1) {
			t.Errorf("%d times $not", n)
		}
	}
	for _, v := range []any{notted(json.Object{}, 32), notted(json.Object{{Name: "a", Value: true}}, 40), notted(json.Object{{Name: "a", Value: json.List{}}}, 31)} {
		if q, e := query.Read(v); q != nil || e != api.ErrQuery {
			t.Errorf("Read of what is too deep: %v, %d", q, e)
		}
	}
	deep := any(json.Object{{Name: "a", Value: true}})
	for range 15 {
		deep = json.Object{{Name: "$and", Value: json.List{json.Object{}, deep}}}
	}
	if q := ask(t, deep); !q.Match(read(`{"a":true}`)) || q.Match(json.Object{}) {
		t.Error("15 times $and")
	}
}

// plains are so many members, each a path with a value.
func plains(n int) json.Object {
	o := json.Object{}
	for i := range n {
		o = append(o, json.Member{Name: fmt.Sprintf("f%d", i), Value: json.Num(i)})
	}
	return o
}

func TestAtMostAHundred(t *testing.T) { // P21.1
	conditioned := func(n int) json.Object { // each a path with a condition
		o := plains(n)
		for i := range o {
			o[i].Value = json.Object{{Name: "$eq", Value: o[i].Value}}
		}
		return o
	}
	with := func(o json.Object, name string, v any) json.Object {
		return append(o, json.Member{Name: name, Value: v})
	}
	empty := make(json.List, 1000)
	for i := range empty {
		empty[i] = json.Object{}
	}
	all := json.Object{}
	for _, name := range strings.Fields("$eq $ne $lt $lte $gt $gte") {
		all = append(all, json.Member{Name: name, Value: json.Num(5)})
	}
	for i, c := range []struct {
		v  any
		ok bool
	}{
		{plains(100), true}, {plains(101), false}, {conditioned(50), true}, {conditioned(51), false}, {with(conditioned(49), "a", nil), true}, {with(conditioned(50), "a", nil), false}, {with(plains(98), "a", read(`{"$gt":1}`)), true}, {with(plains(97), "a", read(`{"$gt":1,"$lt":2}`)), true}, {with(plains(98), "a", read(`{"$gt":1,"$lt":2}`)), false}, {with(plains(93), "a", all), true}, {with(plains(94), "a", all), false},
		{with(plains(98), "a", read(`{"b":1,"c":2,"d":[1,2,3,4,5]}`)), true}, {with(plains(99), "a", read(`{"b":1,"$c":2,"d":[1,2,3,4,5]}`)), true},
		{with(plains(99), "$not", json.Object{}), true}, {with(plains(100), "$not", json.Object{}), false}, {with(plains(49), "$not", plains(50)), true}, {with(plains(50), "$not", plains(50)), false}, {notted(plains(99), 1), true}, {notted(plains(100), 1), false}, {notted(plains(80), 20), true}, {notted(plains(81), 20), false},
		{json.Object{{Name: "$and", Value: empty}}, true}, {json.Object{{Name: "$or", Value: empty}}, true}, {json.Object{{Name: "$and", Value: json.List{plains(99)}}}, true}, {json.Object{{Name: "$and", Value: json.List{plains(100)}}}, false}, {json.Object{{Name: "$or", Value: json.List{plains(40), plains(59)}}}, true}, {json.Object{{Name: "$or", Value: json.List{plains(40), plains(60)}}}, false}, {json.Object{{Name: "$or", Value: json.List{plains(30)}}, {Name: "$and", Value: json.List{plains(30), plains(38)}}}, true}, {json.Object{{Name: "$or", Value: json.List{plains(30)}}, {Name: "$and", Value: json.List{plains(30), plains(39)}}}, false},
		{with(plains(97), "$and", json.List{read(`{"a":{"$gt":1}}`)}), true}, {with(plains(98), "$and", json.List{read(`{"a":{"$gt":1}}`)}), false}, {with(plains(98), "$and", json.List{read(`{"a":1}`)}), true}, {plains(5000), false},
	} {
		q, e := query.Read(c.v)
		if (e == api.OK) != c.ok || (q != nil) != c.ok || !c.ok && e != api.ErrQuery {
			t.Errorf("case %d: %d", i, e)
		}
	}
}

func TestOwnConditions(t *testing.T) { // P21.2
	for _, c := range []struct{ question, want string }{
		{`{}`, `[]`},
		{`{"a":{"$gte":1,"$lt":5},"b.c":"x"}`, `[["a","$gte",1],["a","$lt",5],["b.c","$eq","x"]]`},
		{`{"b":{"$lt":5,"$gte":1},"a":null,"c":{},"d":{"$eq":{"$gt":1}},"e":{"$gt":1,"f":2}}`, `[["b","$lt",5],["b","$gte",1],["a","$eq",null],["c","$eq",{}],["d","$eq",{"$gt":1}],["e","$eq",{"$gt":1,"f":2}]]`},
		{`{"$and":[{"a":1}],"$or":[{"b":1}],"$not":{"c":1}}`, `[]`},
		{`{"$and":[{"a":1}],"x":{"$in":[1,[2]]},"$not":{"c":1},"y":{"$words":"Ships of the line","$kind":"text"}}`, `[["x","$in",[1,[2]]],["y","$words","Ships of the line"],["y","$kind","text"]]`},
		{`{"a":{"$box":[0,0,1,1.5],"$point":[0,0,1,1],"$meets":` + spot("1", "2") + `,"$within":` + square + `,"$exists":false,"$nin":[],"$ne":[],"$lte":{},"$gt":"x"}}`, `[["a","$box",[0,0,1,1.5]],["a","$point",[0,0,1,1]],["a","$meets",` + spot("1", "2") + `],["a","$within",` + square + `],["a","$exists",false],["a","$nin",[]],["a","$ne",[]],["a","$lte",{}],["a","$gt","x"]]`},
	} {
		got := json.List{}
		for _, x := range ask(t, read(c.question)).Conditions() {
			got = append(got, json.List{x.Path, x.Name, x.Value})
		}
		if !json.Same(got, read(c.want)) {
			t.Errorf("conditions of %s: %s", c.question, print(got))
		}
	}
}

func TestKind(t *testing.T) { // P21.2
	for s, want := range map[string]string{`null`: "null", `true`: "bool", `false`: "bool", `0`: "number", `-1.5`: "number", `""`: "text", `"null"`: "text", `[]`: "list", `[1]`: "list", `{}`: "object", `{"a":1}`: "object"} {
		if got := query.Kind(read(s)); got != want {
			t.Errorf("Kind(%s): %q", s, got)
		}
	}
	if query.Kind(json.List(nil)) != "list" || query.Kind(json.Object(nil)) != "object" {
		t.Error("an empty list, an empty object have another kind")
	}
	for _, v := range faults() {
		if got := query.Kind(v); got != "" {
			t.Errorf("Kind(%s): %q", print(v), got)
		}
	}
}

// disturb changes all that a value holds, the spare room behind its lists' ends too.
func disturb(v any) {
	switch x := v.(type) {
	case json.List:
		for i := range x {
			disturb(x[i])
			x[i] = "disturbed"
		}
		_ = append(x, "more")
	case json.Object:
		for i := range x {
			disturb(x[i].Value)
			x[i] = json.Member{Name: "disturbed", Value: json.Num(i)}
		}
		_ = append(x, json.Member{Name: "more"})
	}
}

func TestMemory(t *testing.T) { // R4
	texts := []string{`{"a":{"$in":[[1],{"b":[2]}],"$nin":[[3]],"$ne":{"c":[4]}},"b":{"c":[5]},"$or":[{"d":[6]},{"d":{"$gte":[7]}}],"e":{"$box":[0,0,1,1],"$meets":` + square + `}}`}
	doc := `{"a":[1],"b":{"c":[5]},"d":[6],"e":` + spot("1", "1") + `}`
	for _, s := range texts {
		v := read(s)
		q := ask(t, v)
		if !json.Same(v, read(s)) {
			t.Fatalf("Read changed %s", s)
		}
		disturb(v)
		d := read(doc)
		if !q.Match(d) || !json.Same(d, read(doc)) {
			t.Errorf("%s is not true of %s, or changed it", s, doc)
		}
		before := told(q)
		for _, c := range q.Conditions() {
			disturb(c.Value)
		}
		clear(q.Conditions())
		_ = append(q.Conditions()[:1], query.Condition{Path: "x"})
		if !slices.Equal(told(q), before) || !q.Match(read(doc)) {
			t.Errorf("%s: conditions share memory with the question", s)
		}
	}
	room := append(make(json.Object, 0, 4), json.Member{Name: "a", Value: json.Num(1)}, json.Member{Name: "b"}, json.Member{Name: "c"})
	q := ask(t, room[:1])
	q.Match(room[:1])
	q.Conditions()
	if room[1].Name != "b" || room[2].Name != "c" || room[0].Name != "a" {
		t.Error("the room behind a question was changed")
	}
}

// told are a question's conditions as texts.
func told(q *query.Query) []string {
	var out []string
	for _, c := range q.Conditions() {
		out = append(out, c.Path+" "+c.Name+" "+print(c.Value))
	}
	return out
}

func TestGreatQuestions(t *testing.T) { // R1: they end soon
	many := make(json.List, 20000)
	for i := range many {
		many[i] = json.Object{}
	}
	for _, name := range []string{"$and", "$or"} {
		if q := ask(t, json.Object{{Name: name, Value: many}}); !q.Match(json.Object{}) {
			t.Errorf("%s of many empty questions", name)
		}
	}
	for i := range many {
		many[i] = json.Num(i)
	}
	q := ask(t, json.Object{{Name: "a", Value: json.Object{{Name: "$in", Value: many}}}})
	if !q.Match(json.Object{{Name: "a", Value: json.Num(19999)}}) || q.Match(json.Object{{Name: "a", Value: json.Num(20000)}}) {
		t.Error("$in of many values")
	}
	long := strings.Repeat("many ships and boats ", 20000)
	q = ask(t, json.Object{{Name: "a", Value: json.Object{{Name: "$words", Value: long}}}})
	if !q.Match(json.Object{{Name: "a", Value: "boat, ship, many"}}) || !q.Match(json.Object{{Name: "a", Value: long}}) || q.Match(json.Object{{Name: "a", Value: "ship"}}) {
		t.Error("$words of a long text")
	}
}
