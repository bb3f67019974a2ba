package update_test

import (
	"fmt"
	"math"
	"strings"
	"testing"

	"waywiser/api"
	"waywiser/json"
	"waywiser/update"
)

const most = 9_000_000_000_000_000_000

// read is the value of a JSON text that is one.
func read(s string) any {
	v, e := json.Parse([]byte(s))
	if e != api.OK {
		panic(s)
	}
	return v
}

// print is the text of a value, or how Go tells it, if it may not be.
func print(v any) string {
	b, e := json.Print(v)
	if e != api.OK {
		b = fmt.Appendf(nil, "%#v", v)
	}
	return string(b[:min(len(b), 300)])
}

// fault is a value that may not be, and why.
type fault struct {
	v any
	e api.Errno
}

// faults are values that may not be.
func faults() []fault {
	type text string
	n := json.Num(1)
	within := json.List{nil}
	within[0] = within
	return []fault{
		{5, api.ErrType}, {1.5, api.ErrType}, {[]any{}, api.ErrType}, {map[string]any{"a": nil}, api.ErrType}, {text("x"), api.ErrType}, {&n, api.ErrType}, {&json.Object{}, api.ErrType}, {(*json.Object)(nil), api.ErrType}, {func() {}, api.ErrType}, {json.Object{{Name: "a", Value: 5}}, api.ErrType},
		{json.Num(most + 1), api.ErrRange}, {json.Object{{Name: "a", Value: json.Num(math.MinInt64)}}, api.ErrRange},
		{"\xff", api.ErrText}, {json.Object{{Name: "\xff"}}, api.ErrText},
		{within, api.ErrDeep}, {nested(nil, 33), api.ErrDeep},
		{json.Object{{Name: "a"}, {Name: "a"}}, api.ErrTwice},
	}
}

// nested is a value within so many objects, each of one member a.
func nested(v any, n int) any {
	for range n {
		v = json.Object{{Name: "a", Value: v}}
	}
	return v
}

// one is a change of one member.
func one(name string, v any) json.Object { return json.Object{{Name: name, Value: v}} }

func TestApply(t *testing.T) { // P22.1
	for _, c := range []struct{ doc, change, want string }{
		{`{"a":1}`, `{"$inc":{"a":2,"b":1},"$push":{"c":"x"}}`, `{"a":3,"b":1,"c":["x"]}`},

		{`{}`, `{"$set":{"a":1}}`, `{"a":1}`},
		{`{"a":1,"b":2}`, `{"$set":{"a":{"$inc":{"x":1}},"c.d.e":[null]}}`, `{"a":{"$inc":{"x":1}},"b":2,"c":{"d":{"e":[null]}}}`},
		{`{"a":[1,2]}`, `{"$set":{"a.0":5,"a.2":6,"a.3.b":7}}`, `{"a":[5,2,6,{"b":7}]}`},
		{`{"a":1}`, `{"$set":{"b":1,"b.c":2}}`, ``},
		{`{"a":1}`, `{"$set":{"b":{},"b.c":2,"b.d":3}}`, `{"a":1,"b":{"c":2,"d":3}}`},
		{`{"a":1}`, `{"$set":{}}`, `{"a":1}`},
		{`{"_id":1}`, `{"$set":{"_id":2}}`, `{"_id":2}`},

		{`{"a":1,"b":{"c":2,"d":3},"e":[1,2,3]}`, `{"$unset":["a","b.c","e.1"]}`, `{"b":{"d":3},"e":[1,3]}`},
		{`{"a":1}`, `{"$unset":["b","a.b","a.0","c.d.e"]}`, `{"a":1}`},
		{`{"a":1}`, `{"$unset":[]}`, `{"a":1}`},
		{`{"a":[1,2,3]}`, `{"$unset":["a.0","a.0"]}`, `{"a":[3]}`},
		{`{"a":[1,2,3]}`, `{"$unset":["a.2","a.2","a"]}`, `{}`},

		{`{"a":1.5,"b":[2]}`, `{"$inc":{"a":-2.25,"b.0":1,"b.1":7,"c.d":0.0000001}}`, `{"a":-0.75,"b":[3,7],"c":{"d":0.0000001}}`},
		{`{"a":3,"b":[2]}`, `{"$mul":{"a":-1.5,"b.0":0,"b.1":7,"c.d":5}}`, `{"a":-4.5,"b":[0,0],"c":{"d":0}}`},
		{`{"a":900000000000}`, `{"$inc":{"a":-900000000000}}`, `{"a":0}`},
		{`{}`, `{"$inc":{"a":900000000000,"b":-900000000000}}`, `{"a":900000000000,"b":-900000000000}`},
		{`{"a":0.5}`, `{"$mul":{"a":0.5}}`, `{"a":0.25}`},

		{`{"a":5,"b":5,"c":5}`, `{"$min":{"a":4,"b":5,"c":6,"d":7}}`, `{"a":4,"b":5,"c":5,"d":7}`},
		{`{"a":5,"b":5,"c":5}`, `{"$max":{"a":4,"b":5,"c":6,"d":7}}`, `{"a":5,"b":5,"c":6,"d":7}`},
		{`{"a":5,"b":5,"c":null,"d":[1]}`, `{"$min":{"a":"x","b":true,"c":0,"d":[0,9]}}`, `{"a":5,"b":true,"c":null,"d":[0,9]}`},
		{`{"a":5,"b":5,"c":null,"d":[1]}`, `{"$max":{"a":"x","b":true,"c":0,"d":[0,9]}}`, `{"a":"x","b":5,"c":0,"d":[1]}`},
		{`{}`, `{"$min":{"a.b":null},"$max":{"a.c":{}}}`, `{"a":{"b":null,"c":{}}}`},

		{`{"a":[1],"b":[]}`, `{"$push":{"a":[2],"b":null,"c.d":{"e":1},"a.2":5}}`, `{"a":[1,[2],[5]],"b":[null],"c":{"d":[{"e":1}]}}`},
		{`{"a":[[1],[2]]}`, `{"$push":{"a.0":3,"a.1":4}}`, `{"a":[[1,3],[2,4]]}`},

		{`{"a":1,"b":2}`, `{"$rename":{"a":"c"}}`, `{"b":2,"c":1}`},
		{`{"a":1,"b":2}`, `{"$rename":{"a":"b"}}`, `{"b":1}`},
		{`{"a":1,"b":2}`, `{"$rename":{"x":"b","a.b":"c","a.0":"d"}}`, `{"a":1,"b":2}`},
		{`{"a":1,"b":2}`, `{"$rename":{"a":"a"}}`, `{"b":2,"a":1}`},
		{`{"a":{"b":1}}`, `{"$rename":{"a":"a.c"}}`, `{"a":{"c":{"b":1}}}`},
		{`{"a":{"b":1}}`, `{"$rename":{"a.b":"c.d","a":"e"}}`, `{"c":{"d":1},"e":{}}`},
		{`{"a":[1,2,3]}`, `{"$rename":{"a.0":"a.1"}}`, `{"a":[2,1]}`},
		{`{"a":[1,2,3]}`, `{"$rename":{"a.0":"a.2"}}`, `{"a":[2,3,1]}`},
		{`{"a":1,"b":2}`, `{"$rename":{"a":"b","b":"a"}}`, `{"a":1}`},
		{`{"a":1}`, `{"$rename":{}}`, `{"a":1}`},

		{`{"a":1}`, `{"$rename":{"a":"b"},"$set":{"a":2},"$inc":{"a":1,"b":10}}`, `{"b":11,"a":3}`},
		{`{"a":1}`, `{"$inc":{"a":1},"$set":{"a":5}}`, `{"a":5}`},
		{`{"a":1}`, `{"$set":{"a":5},"$inc":{"a":1}}`, `{"a":6}`},
		{`{"a":1}`, `{"$mul":{"a":5},"$inc":{"a":1},"$min":{"a":4},"$max":{"a":9},"$unset":["b"]}`, `{"a":9}`},
		{`{"a":"x"}`, `{"$unset":["a"],"$inc":{"a":2}}`, `{"a":2}`},
	} {
		got, e := update.Apply(read(c.doc), read(c.change))
		if c.want == "" {
			if e != api.ErrType || got != nil {
				t.Errorf("%s by %s: %s, %d", c.doc, c.change, print(got), e)
			}
		} else if e != api.OK || !json.Same(got, read(c.want)) {
			t.Errorf("%s by %s: %s, %d", c.doc, c.change, print(got), e)
		}
		if !update.Right(read(c.change)) {
			t.Errorf("%s is no change", c.change)
		}
	}
}

func TestErrorsOnTheWay(t *testing.T) { // P22.1
	for _, c := range []struct {
		doc, change string
		e           api.Errno
	}{
		{`{"a":"x"}`, `{"$inc":{"a":1}}`, api.ErrType}, {`{"a":null}`, `{"$inc":{"a":1}}`, api.ErrType}, {`{"a":[1]}`, `{"$mul":{"a":1}}`, api.ErrType}, {`{"a":true}`, `{"$mul":{"a":0}}`, api.ErrType}, {`{"a":{}}`, `{"$inc":{"a":1}}`, api.ErrType},
		{`{"a":1}`, `{"$push":{"a":1}}`, api.ErrType}, {`{"a":null}`, `{"$push":{"a":1}}`, api.ErrType}, {`{"a":{}}`, `{"$push":{"a":1}}`, api.ErrType}, {`{"a":"x"}`, `{"$push":{"a":"y"}}`, api.ErrType},
		{`{"a":1}`, `{"$set":{"a.b":1}}`, api.ErrType}, {`{"a":[1]}`, `{"$set":{"a.2":1}}`, api.ErrType}, {`{"a":[1]}`, `{"$set":{"a.b":1}}`, api.ErrType}, {`{"a":[1]}`, `{"$inc":{"a.01":1}}`, api.ErrType}, {`{"a":"x"}`, `{"$inc":{"a.b":1}}`, api.ErrType}, {`{"a":1}`, `{"$min":{"a.b":1}}`, api.ErrType}, {`{"a":1}`, `{"$max":{"a.b":1}}`, api.ErrType}, {`{"a":[1]}`, `{"$push":{"a.2":1}}`, api.ErrType}, {`{"a":1,"b":2}`, `{"$rename":{"a":"b.c"}}`, api.ErrType}, {`{"a":[1,2]}`, `{"$rename":{"a.0":"a.2"}}`, api.ErrType},
		{`{"a":900000000000}`, `{"$inc":{"a":0.0000001}}`, api.ErrNumber}, {`{"a":-900000000000}`, `{"$inc":{"a":-1}}`, api.ErrNumber}, {`{"a":900000000000}`, `{"$mul":{"a":2}}`, api.ErrNumber}, {`{"a":0.0000001}`, `{"$mul":{"a":0.5}}`, api.ErrNumber}, {`{"a":0.00001}`, `{"$mul":{"a":0.001}}`, api.ErrNumber},
		{`{"a":900000000000,"b":"x"}`, `{"$inc":{"a":1,"b":1}}`, api.ErrNumber}, {`{"a":900000000000,"b":"x"}`, `{"$inc":{"b":1,"a":1}}`, api.ErrType}, {`{"a":900000000000,"b":"x"}`, `{"$push":{"b":1},"$inc":{"a":1}}`, api.ErrType}, {`{"a":900000000000,"b":"x"}`, `{"$inc":{"a":1},"$push":{"b":1}}`, api.ErrNumber}, {`{"a":1}`, `{"$set":{"b":1},"$inc":{"a":1,"b.c":1}}`, api.ErrType},
	} {
		if got, e := update.Apply(read(c.doc), read(c.change)); got != nil || e != c.e {
			t.Errorf("%s by %s: %s, %d; want %d", c.doc, c.change, print(got), e, c.e)
		}
	}
}

func TestTooDeep(t *testing.T) { // P22.1: Put's ErrDeep
	path := func(n int) string { return strings.TrimSuffix(strings.Repeat("a.", n), ".") }
	for _, c := range []struct {
		doc  any
		name string
		own  json.Object
		e    api.Errno
	}{
		{json.Object{}, "$set", one(path(32), nil), api.OK}, {json.Object{}, "$set", one(path(33), nil), api.ErrDeep}, {json.Object{}, "$set", one(path(31), json.List{}), api.OK}, {json.Object{}, "$set", one(path(32), json.List{}), api.ErrDeep},
		{json.Object{}, "$set", one("a", nested(nil, 30)), api.OK}, {json.Object{}, "$set", one("a.a", nested(nil, 30)), api.OK}, {json.Object{}, "$set", one("a.a.a", nested(nil, 30)), api.ErrDeep},
		{nested(json.List{}, 31), "$push", one(path(31), nil), api.OK}, {nested(json.List{}, 31), "$push", one(path(31), json.List{}), api.ErrDeep}, {json.Object{}, "$push", one(path(31), nil), api.OK}, {json.Object{}, "$push", one(path(32), nil), api.ErrDeep},
		{json.Object{}, "$inc", one(path(33), json.Num(1)), api.ErrDeep}, {json.Object{}, "$mul", one(path(32), json.Num(1)), api.OK}, {json.Object{}, "$min", one(path(33), json.Num(1)), api.ErrDeep}, {json.Object{}, "$max", one(path(33), json.Num(1)), api.ErrDeep},
		{nested(nil, 32), "$rename", one("a", "b"), api.OK}, {nested(nil, 32), "$rename", one("a", "b.c"), api.ErrDeep}, {nested(nil, 32), "$rename", one("a.a", "b.c"), api.OK},
		{nested(nil, 32), "$unset", nil, api.OK},
	} {
		u := one(c.name, c.own)
		if c.name == "$unset" {
			u = one("$unset", json.List{path(32)})
		}
		got, e := update.Apply(c.doc, u)
		if e != c.e || (got == nil) != (e != api.OK) || json.May(got) != api.OK {
			t.Errorf("%s by %s: %d; want %d", print(c.doc), print(u), e, c.e)
		}
	}
}

// noChanges are texts of values that are none.
var noChanges = []string{
	`null`, `true`, `5`, `"$set"`, `[]`, `[{"$set":{"a":1}}]`, `{}`, `{"a":1}`, `{"$foo":{}}`, `{"$":{}}`, `{"set":{"a":1}}`, `{"$Set":{"a":1}}`, `{"":{}}`, `{"$set":{"a":1},"b":2}`, `{"$set":{"a":1},"$foo":{}}`, `{"$and":[{}]}`,
	`{"$set":null}`, `{"$set":[]}`, `{"$set":["a"]}`, `{"$set":5}`, `{"$set":"a"}`, `{"$set":{"":1}}`, `{"$set":{"a..b":1}}`, `{"$set":{"a":1,".":2}}`, `{"$set":{"a.":1}}`, `{"$set":{"` + strings.Repeat("a", 129) + `":1}}`,
	`{"$unset":{}}`, `{"$unset":{"a":1}}`, `{"$unset":"a"}`, `{"$unset":null}`, `{"$unset":[1]}`, `{"$unset":["a",null]}`, `{"$unset":[["a"]]}`, `{"$unset":[""]}`, `{"$unset":["a","b."]}`,
	`{"$inc":{"a":"1"}}`, `{"$inc":{"a":null}}`, `{"$inc":{"a":[1]}}`, `{"$inc":{"a":true}}`, `{"$inc":{"a":1,"b":{}}}`, `{"$inc":[]}`, `{"$inc":1}`, `{"$inc":{".":1}}`, `{"$mul":{"a":"1"}}`, `{"$mul":{"a":null}}`, `{"$mul":null}`, `{"$mul":{"":1}}`,
	`{"$min":[]}`, `{"$min":{"":1}}`, `{"$max":1}`, `{"$max":{"a..b":1}}`, `{"$push":[]}`, `{"$push":"a"}`, `{"$push":{"":1}}`,
	`{"$rename":[]}`, `{"$rename":["a","b"]}`, `{"$rename":{"a":1}}`, `{"$rename":{"a":null}}`, `{"$rename":{"a":["b"]}}`, `{"$rename":{"a":""}}`, `{"$rename":{"a":"b."}}`, `{"$rename":{"":"b"}}`, `{"$rename":{"a":"b","c":"d..e"}}`, `{"$rename":{"a":"` + strings.Repeat("a", 129) + `"}}`,
}

func TestNoChange(t *testing.T) { // P22.1
	refused := func(u any) {
		t.Helper()
		if update.Right(u) {
			t.Errorf("%s is a change", print(u))
		}
		for _, doc := range []any{json.Object{}, nil, 5, json.List{}} {
			if got, e := update.Apply(doc, u); got != nil || e != api.ErrUpdate {
				t.Errorf("%s by %s: %s, %d", print(doc), print(u), print(got), e)
			}
		}
	}
	for _, s := range noChanges {
		refused(read(s))
	}
	refused(json.Object(nil))
	for _, f := range faults() {
		refused(f.v)
		refused(one("$set", f.v))
		refused(one("$set", one("a", f.v)))
		refused(one("$unset", json.List{"a", f.v}))
		refused(json.Object{{Name: "$set", Value: one("a", nil)}, {Name: "$push", Value: one("a", f.v)}})
	}
	refused(json.Object{{Name: "$set", Value: one("a", nil)}, {Name: "$set", Value: one("b", nil)}})
	refused(one("$set", one("\xff", nil)))
	refused(one("$unset", json.List{"\xff"}))
	refused(one("$set", nested(nil, 32)))
}

func TestNoDocument(t *testing.T) { // P22.1
	for _, s := range []string{`{"$set":{"a":1}}`, `{"$set":{"0":1}}`, `{"$unset":["a"]}`, `{"$rename":{"a":"b"}}`, `{"$push":{}}`} {
		for _, f := range faults() {
			if got, e := update.Apply(f.v, read(s)); got != nil || e != f.e {
				t.Errorf("%s by %s: %s, %d; want %d", print(f.v), s, print(got), e, f.e)
			}
		}
		for _, doc := range []any{nil, true, json.Num(5), "x", json.List{}, json.List(nil), json.List{json.Object{}}} {
			if got, e := update.Apply(doc, read(s)); got != nil || e != api.ErrType {
				t.Errorf("%s by %s: %s, %d", print(doc), s, print(got), e)
			}
		}
	}
	if got, e := update.Apply(json.Object(nil), read(`{"$set":{"a":1}}`)); e != api.OK || !json.Same(got, read(`{"a":1}`)) {
		t.Errorf("an empty object: %s, %d", print(got), e)
	}
}

func TestAtMostAHundred(t *testing.T) { // P22.1
	numbers := func(n int) json.Object {
		o := json.Object{}
		for i := range n {
			o = append(o, json.Member{Name: fmt.Sprintf("f%d", i), Value: json.Num(i)})
		}
		return o
	}
	paths := func(n int) json.List {
		l := json.List{}
		for range n {
			l = append(l, "a")
		}
		return l
	}
	for i, c := range []struct {
		u  json.Object
		ok bool
	}{
		{one("$set", numbers(99)), true}, {one("$set", numbers(100)), false}, {one("$inc", numbers(99)), true}, {one("$mul", numbers(100)), false}, {one("$unset", paths(99)), true}, {one("$unset", paths(100)), false},
		{json.Object{{Name: "$unset", Value: paths(49)}, {Name: "$push", Value: numbers(49)}}, true}, {json.Object{{Name: "$unset", Value: paths(50)}, {Name: "$push", Value: numbers(49)}}, false}, {json.Object{{Name: "$min", Value: numbers(49)}, {Name: "$max", Value: numbers(50)}}, false}, {json.Object{{Name: "$min", Value: numbers(33)}, {Name: "$unset", Value: paths(32)}, {Name: "$max", Value: numbers(32)}}, true},
		{one("$set", one("a", numbers(1000))), true}, {one("$push", one("a", paths(1000))), true}, {one("$set", numbers(10000)), false}, {one("$unset", paths(10000)), false},
	} {
		_, e := update.Apply(json.Object{}, c.u)
		if update.Right(c.u) != c.ok || (e == api.OK) != c.ok || !c.ok && e != api.ErrUpdate {
			t.Errorf("case %d: %t, %d", i, update.Right(c.u), e)
		}
	}
}

// disturb changes all that a value holds, the spare room behind its lists' ends too.
func disturb(v any) {
	switch x := v.(type) {
	case json.List:
		for i := range x {
			disturb(x[i])
			x[i] = "disturbed"
		}
		_ = append(x, "more")
	case json.Object:
		for i := range x {
			disturb(x[i].Value)
			x[i] = json.Member{Name: "disturbed", Value: json.Num(i)}
		}
		_ = append(x, json.Member{Name: "more"})
	}
}

func TestMemory(t *testing.T) { // P22.2, R4
	for _, c := range []struct{ doc, change string }{
		{`{"a":[[1],{"b":2}],"c":{"d":3}}`, `{"$set":{"e":[[1]],"a.0":{"f":[2]},"c.g":[]}}`}, {`{"a":[[1],{"b":2}],"c":{"d":3}}`, `{"$push":{"a":[[3]],"a.0":[4],"x":{"y":[5]}}}`}, {`{"a":[[1],{"b":2}],"c":{"d":3}}`, `{"$unset":["a.0","c.d"]}`}, {`{"a":[[1],{"b":[2]}],"c":{"d":3}}`, `{"$rename":{"a.1":"c.e","c":"f"}}`}, {`{"a":[[1],{"b":2}],"c":{"d":[3]}}`, `{"$min":{"a":[],"c":{"d":[2]}},"$max":{"x":[[1]],"a":{"z":[0]}}}`}, {`{"a":[[1],{"b":2}],"c":{"d":[3]}}`, `{"$unset":["x"],"$set":{}}`}, {`{"a":[[1]],"n":1}`, `{"$inc":{"n":1}}`}, {`{"a":[[1]],"n":1}`, `{"$rename":{"x":"y"}}`}, {`{"a":[[1]],"n":1}`, `{"$min":{"a":{}},"$max":{"a":0}}`},
	} {
		doc, change := read(c.doc), read(c.change)
		got, e := update.Apply(doc, change)
		want := json.Copy(got)
		if e != api.OK || !json.Same(doc, read(c.doc)) || !json.Same(change, read(c.change)) {
			t.Fatalf("%s by %s: %d; what was handed in was changed", c.doc, c.change, e)
		}
		disturb(doc)
		disturb(change)
		if !json.Same(got, want) {
			t.Errorf("%s by %s shares memory with what was handed in", c.doc, c.change)
		}
		doc, change = read(c.doc), read(c.change)
		got, _ = update.Apply(doc, change)
		disturb(got)
		if !json.Same(doc, read(c.doc)) || !json.Same(change, read(c.change)) {
			t.Errorf("what was handed in shares memory with %s by %s", c.doc, c.change)
		}
	}
	doc, own, list := room(), room(), append(make(json.List, 0, 4), "x", "b", "c")
	doc[0].Value, own[0].Value = list[:1], json.Num(1)
	if _, e := update.Apply(doc[:1], json.Object{{Name: "$push", Value: own[:1]}, {Name: "$set", Value: one("z", 1 == 1)}}); e != api.OK {
		t.Fatal(e)
	}
	if doc[1].Name != "b" || doc[2].Name != "c" || own[1].Name != "b" || own[2].Name != "c" || list[1] != "b" || list[2] != "c" {
		t.Error("the room behind what was handed in was changed")
	}
	u := append(make(json.Object, 0, 3), json.Member{Name: "$unset", Value: append(make(json.List, 0, 3), "a", "b")[:1]})
	if update.Right(u); len(u[:2][1].Name) > 0 || u[0].Value.(json.List)[:2][1] != "b" {
		t.Error("the room behind a change was changed")
	}
}

// room is an object with two members behind the first one.
func room() json.Object {
	return append(make(json.Object, 0, 4), json.Member{Name: "a"}, json.Member{Name: "b"}, json.Member{Name: "c"})
}

func TestErrorsChangeNothing(t *testing.T) { // R2
	doc, change := read(`{"a":[1],"b":"x"}`), read(`{"$push":{"a":2},"$set":{"c":1},"$inc":{"b":1}}`)
	if got, e := update.Apply(doc, change); got != nil || e != api.ErrType || !json.Same(doc, read(`{"a":[1],"b":"x"}`)) {
		t.Errorf("%s, %d; the document is %s now", print(got), e, print(doc))
	}
}
