package engine_test

import (
	"bytes"
	"fmt"
	"math/rand"
	"slices"
	"strings"
	"testing"

	"waywiser/api"
	"waywiser/disk"
	"waywiser/engine"
	"waywiser/pool"
)

func want(t *testing.T, what string, e, wants api.Errno) {
	t.Helper()
	if e != wants {
		t.Fatalf("%s tells %d, not %d", what, e, wants)
	}
}

// formatted is an engine without sheets, on a disk of its own.
func formatted(t *testing.T, sectors, size int) (*engine.Engine, *disk.Disk) {
	t.Helper()
	d := disk.New(sectors, size)
	g, e := engine.Format(d)
	want(t, "Format", e, api.OK)
	return g, d
}

func opened(t *testing.T, d *disk.Disk) *engine.Engine {
	t.Helper()
	g, e := engine.Open(d)
	want(t, "Open", e, api.OK)
	return g
}

// do is the reply to a command; in both ' stands for ".
func do(g *engine.Engine, command string) string {
	return strings.ReplaceAll(string(g.Do([]byte(strings.ReplaceAll(command, "'", `"`)))), `"`, "'")
}

// tells wants replies: lines are commands, each with its reply in the line behind it.
func tells(t *testing.T, g *engine.Engine, script string) {
	t.Helper()
	lines := strings.Split(strings.TrimSpace(script), "\n")
	for i := 0; i < len(lines); i += 2 {
		command, wants := strings.TrimSpace(lines[i]), strings.TrimSpace(lines[i+1])
		if reply := do(g, command); reply != wants {
			t.Errorf("%.300s\n%.600s\nnot\n%.600s", command, reply, wants)
		}
	}
}

// does wants that commands are done.
func does(t *testing.T, g *engine.Engine, commands ...string) {
	t.Helper()
	for _, c := range commands {
		if reply := do(g, c); !strings.HasPrefix(reply, "{'ok':true") {
			t.Fatalf("%.300s: %s", c, reply)
		}
	}
}

// all is all that an engine tells of two sheets, a and b.
func all(g *engine.Engine) string {
	return do(g, "{'sheets':true}") + do(g, "{'find':'a','ask':{}}") + do(g, "{'find':'b','ask':{}}")
}

func TestExamples(t *testing.T) { // the chapter's, and the whole's, on disks of which R7 speaks
	g, _ := formatted(t, 100, 512)
	tells(t, g, `
		{'create':'a'}
		{'ok':true}
		{'create':'a'}
		{'error':8}
		{'insert':'a','doc':{'_id':1}}
		{'ok':true}
		{'find':'a','ask':{}}
		{'ok':true,'found':[{'doc':{'_id':1},'score':0}]}`)
	g, d := formatted(t, 60, 512)
	tells(t, g, `
		{'create':'towns'}
		{'ok':true}
		{'index':'towns','kind':'spot','path':'at'}
		{'ok':true}
		{'index':'towns','kind':'text','path':'says'}
		{'ok':true}
		{'insert':'towns','doc':{'_id':1,'at':{'type':'Point','coordinates':[1,1]},'says':'An old harbour town'}}
		{'ok':true}
		{'insert':'towns','doc':{'_id':2,'at':{'type':'Point','coordinates':[4,5]},'says':'Towns of ships, ships'}}
		{'ok':true}
		{'find':'towns','ask':{'near':{'path':'at','at':[0,0]},'fields':['_id']}}
		{'ok':true,'found':[{'doc':{'_id':1},'score':0,'near':'200000000000000'},{'doc':{'_id':2},'score':0,'near':'4100000000000000'}]}
		{'plans':'towns','ask':{'text':{'path':'says','words':'ship'}}}
		{'ok':true,'plans':['top:says','text:says','scan']}
		{'count':'towns','ask':{'where':{'says':{'$words':'town'}}}}
		{'ok':true,'count':2}
		{'update':'towns','id':1,'change':{'$inc':{'seen':1}}}
		{'ok':true,'doc':{'_id':1,'at':{'type':'Point','coordinates':[1,1]},'says':'An old harbour town','seen':1}}`)
	d.Crash(nil)
	tells(t, opened(t, d), `
		{'sheets':true}
		{'ok':true,'sheets':[['towns',2,[['spot','at'],['text','says']]]]}
		{'find':'towns','ask':{},'plan':'order:n'}
		{'error':20}`)
}

func TestFormat(t *testing.T) { // P25.1
	for _, x := range []struct {
		d     *disk.Disk
		wants api.Errno
	}{{nil, api.ErrArg}, {disk.New(23, 512), api.ErrSize}, {disk.New(24, 511), api.ErrSize}, {downed(disk.New(23, 512)), api.ErrSize}, {downed(disk.New(24, 512)), api.ErrDown}} {
		for what, call := range map[string]func(*disk.Disk) (*engine.Engine, api.Errno){"Format": engine.Format, "Open": engine.Open} {
			if g, e := call(x.d); g != nil || e != x.wants {
				t.Errorf("%s: %v, %d, not %d", what, g, e, x.wants)
			}
		}
	}
	g, _ := formatted(t, 24, 512) // the least disk has room for an engine
	tells(t, g, `
		{'sheets':true}
		{'ok':true,'sheets':[]}
		{'create':'a'}
		{'ok':true}
		{'insert':'a','doc':{'_id':1}}
		{'ok':true}`)
	if l, e := g.Sheets(); e != api.OK || !slices.Equal(l, []string{"a"}) || g.Dead() {
		t.Errorf("%v, %d, %v", l, e, g.Dead())
	}
}

// downed is a disk that is down.
func downed(d *disk.Disk) *disk.Disk {
	d.Arm(1)
	d.Flush()
	return d
}

func TestOpen(t *testing.T) { // P25.1
	d := disk.New(40, 512)
	if g, e := engine.Open(d); g != nil || e != api.ErrForm {
		t.Errorf("Open of a blank disk: %v, %d", g, e)
	}
	p, e := pool.Format(d)
	want(t, "Format", e, api.OK)
	if g, e := engine.Open(d); g != nil || e != api.ErrForm {
		t.Errorf("Open of a blank pool: %v, %d", g, e)
	}
	p, _ = pool.Open(d)
	p.Take()
	for k := range 8 {
		p.SetRoot(k, 1)
	}
	want(t, "Commit", p.Commit(), api.OK)
	if g, e := engine.Open(d); g != nil || e != api.ErrForm {
		t.Errorf("Open of another one's pool: %v, %d", g, e)
	}
	g, e := engine.Format(d)
	want(t, "Format", e, api.OK)
	does(t, g, "{'create':'b'}", "{'create':'a'}", "{'insert':'b','doc':{'_id':7}}", "{'index':'a','kind':'order','path':'n'}")
	wants := all(g)
	for range 3 {
		d.Crash(nil)
		if g = opened(t, d); all(g) != wants || g.Dead() {
			t.Fatalf("%s\nnot\n%s", all(g), wants)
		}
	}
}

func TestNil(t *testing.T) { // P25.1
	var g *engine.Engine
	for _, c := range []string{"", "{'sheets':true}", "no text"} {
		if reply := do(g, c); reply != "{'error':1}" {
			t.Errorf("%q: %s", c, reply)
		}
	}
	if l, e := g.Sheets(); l != nil || e != api.ErrArg || g.Dead() {
		t.Errorf("%v, %d, %v", l, e, g.Dead())
	}
}

func TestSheets(t *testing.T) { // P25.1
	g, d := formatted(t, 100, 512)
	if l, e := g.Sheets(); len(l) > 0 || e != api.OK {
		t.Errorf("%v, %d", l, e)
	}
	does(t, g, "{'create':'b'}", "{'create':'a'}", "{'create':'_'}", "{'create':'ab'}", "{'create':'9'}", "{'index':'b','kind':'order','path':'n'}", "{'insert':'b','doc':{'_id':1}}", "{'index':'b','kind':'cell','path':'_id.\\u0001'}")
	l, e := g.Sheets()
	if e != api.OK || strings.Join(l, " ") != "9 _ a ab b" {
		t.Errorf("%v, %d", l, e)
	}
	tells(t, g, `
		{'sheets':true}
		{'ok':true,'sheets':[['9',0,[]],['_',0,[]],['a',0,[]],['ab',0,[]],['b',1,[['order','n'],['cell','_id.\u0001']]]]}`)
	does(t, g, "{'checkpoint':true}")
	downed(d)
	if l, e := g.Sheets(); l != nil || e != api.ErrDown || !g.Dead() {
		t.Errorf("%v, %d, %v", l, e, g.Dead())
	}
}

func TestNoCommand(t *testing.T) { // P25.1
	g, _ := formatted(t, 100, 512)
	does(t, g, "{'create':'a'}")
	before := all(g)
	for text, wants := range map[string]api.Errno{
		"": api.ErrText, "{": api.ErrText, "{'create':'b'} x": api.ErrText, "{'create':'b\xff'}": api.ErrText,
		strings.Repeat(" ", api.MaxText) + "{":                                           api.ErrLong,
		"{'insert':'a','doc':" + strings.Repeat("[", 32) + strings.Repeat("]", 32) + "}": api.ErrDeep,
		"{'get':'a','id':1e99}":                                                          api.ErrNumber,
		"{'create':'b','create':'b'}":                                                    api.ErrTwice,
		"{'create':'b','x':1,'x':2}":                                                     api.ErrTwice,
		"{'insert':'a','doc':{'_id':1e-8}}":                                              api.ErrNumber,
		"1":                                                                              api.ErrCommand,
		"null":                                                                           api.ErrCommand,
		"'create'":                                                                       api.ErrCommand,
		"[]":                                                                             api.ErrCommand,
		"['create','b']":                                                                 api.ErrCommand,
		"{}":                                                                             api.ErrCommand,
		"{'':'b'}":                                                                       api.ErrCommand,
		"{'Create':'b'}":                                                                 api.ErrCommand,
		"{'doc':{'_id':1},'insert':'a'}":                                                 api.ErrCommand,
		"{'create':'b','x':1}":                                                           api.ErrCommand,
		"{'create':'b','doc':{'_id':1}}":                                                 api.ErrCommand,
		"{'create':null}":                                                                api.ErrCommand,
		"{'create':1}":                                                                   api.ErrCommand,
		"{'create':['b']}":                                                               api.ErrCommand,
		"{'create':true}":                                                                api.ErrCommand,
		"{'create':''}":                                                                  api.ErrCommand,
		"{'create':'A'}":                                                                 api.ErrCommand,
		"{'create':'b-c'}":                                                               api.ErrCommand,
		"{'create':' b'}":                                                                api.ErrCommand,
		"{'create':'b '}":                                                                api.ErrCommand,
		"{'create':'é'}":                                                                 api.ErrCommand,
		"{'create':'b\\u0000'}":                                                          api.ErrCommand,
		"{'create':'`'}":                                                                 api.ErrCommand,
		"{'create':'{'}":                                                                 api.ErrCommand,
		"{'create':'/'}":                                                                 api.ErrCommand,
		"{'create':':'}":                                                                 api.ErrCommand,
		"{'create':'@'}":                                                                 api.ErrCommand,
		"{'create':'^'}":                                                                 api.ErrCommand,
		"{'create':'" + letters(33) + "'}":                                               api.ErrCommand,
		"{'get':'" + letters(33) + "'}":                                                  api.ErrCommand,
		"{'drop':'A'}":                                                                   api.ErrCommand,
		"{'drop':'a','id':1}":                                                            api.ErrCommand,
		"{'index':'a'}":                                                                  api.ErrCommand,
		"{'index':'a','kind':'order'}":                                                   api.ErrCommand,
		"{'index':'a','path':'n'}":                                                       api.ErrCommand,
		"{'index':'a','kind':1,'path':'n'}":                                              api.ErrCommand,
		"{'index':'a','kind':'no','path':1}":                                             api.ErrCommand,
		"{'index':'a','kind':'order','path':'n','doc':1}": api.ErrCommand,
		"{'unindex':'a','kind':'order'}":                  api.ErrCommand,
		"{'unindex':'a','kind':'order','path':null}":      api.ErrCommand,
		"{'insert':'a'}":                               api.ErrCommand,
		"{'insert':'a','document':{'_id':1}}":          api.ErrCommand,
		"{'insert':'a','doc':{'_id':1},'id':1}":        api.ErrCommand,
		"{'replace':'a','id':1}":                       api.ErrCommand,
		"{'update':'a','id':1}":                        api.ErrCommand,
		"{'update':'a','change':{}}":                   api.ErrCommand,
		"{'update':'a','id':1,'change':{},'where':{}}": api.ErrCommand,
		"{'updates':'a','id':1,'change':{}}":           api.ErrCommand,
		"{'updates':'a','where':{}}":                   api.ErrCommand,
		"{'delete':'a'}":                               api.ErrCommand,
		"{'delete':'a','where':{}}":                    api.ErrCommand,
		"{'deletes':'a'}":                              api.ErrCommand,
		"{'deletes':'a','id':1}":                       api.ErrCommand,
		"{'get':'a'}":                                  api.ErrCommand,
		"{'get':'a','id':1,'plan':'scan'}":             api.ErrCommand,
		"{'find':'a'}":                                 api.ErrCommand,
		"{'find':'a','plan':'scan'}":                   api.ErrCommand,
		"{'find':'a','ask':{},'plan':1}":               api.ErrCommand,
		"{'find':'a','ask':{},'plan':null}":            api.ErrCommand,
		"{'find':'a','ask':{},'plans':'scan'}":         api.ErrCommand,
		"{'count':'a','ask':{},'plan':'scan'}":         api.ErrCommand,
		"{'count':'a'}":                                api.ErrCommand,
		"{'plans':'a','where':{}}":                     api.ErrCommand,
		"{'sheets':'a'}":                               api.ErrCommand,
		"{'sheets':false}":                             api.ErrCommand,
		"{'sheets':1}":                                 api.ErrCommand,
		"{'sheets':null}":                              api.ErrCommand,
		"{'sheets':true,'x':1}":                        api.ErrCommand,
		"{'checkpoint':false}":                         api.ErrCommand,
		"{'checkpoint':'true'}":                        api.ErrCommand,
		"{'checkpoint':true,'sheets':true}":            api.ErrCommand,
		"{'name':'a','find':'a','ask':{}}":             api.ErrCommand,
	} {
		if reply := do(g, text); reply != fmt.Sprintf("{'error':%d}", wants) {
			t.Errorf("%.100q: %s, not %d", text, reply, wants)
		}
	}
	if all(g) != before {
		t.Errorf("what is no command did something: %s", all(g))
	}
}

// letters are so many of which a name may be.
func letters(n int) string { return strings.Repeat("az_09", n)[:n] }

func TestAnyOrder(t *testing.T) { // P25.1: the others stand in any order, with blanks
	g, _ := formatted(t, 100, 512)
	tells(t, g, `
		 { 'create' : 'a' }
		{'ok':true}
		{'index':'a','path':'n','kind':'order'}
		{'ok':true}
		{'insert':'a','doc':{'n':1,'_id':1}}
		{'ok':true}
		{'update':'a','change':{'$inc':{'n':1}},'id':1}
		{'ok':true,'doc':{'n':2,'_id':1}}
		{'updates':'a','change':{'$inc':{'n':1}},'where':{}}
		{'ok':true,'count':1}
		{'find':'a','plan':'scan','ask':{'where':{'n':3}}}
		{'ok':true,'found':[{'doc':{'n':3,'_id':1},'score':0}]}
		{'\u0066ind':'\u0061','\u0061sk':{}}
		{'ok':true,'found':[{'doc':{'n':3,'_id':1},'score':0}]}`)
}

func TestOrderOfErrors(t *testing.T) { // P25.1: the first one counts
	g, _ := formatted(t, 200, 512)
	does(t, g, "{'create':'a'}", "{'insert':'a','doc':{'_id':1,'t':'x'}}")
	tells(t, g, `
		{'create':'a','x':1}
		{'error':22}
		{'index':'b','kind':1,'path':'n'}
		{'error':22}
		{'find':'b','ask':{},'plan':1}
		{'error':22}
		{'find':'b','ask':7}
		{'error':7}
		{'find':'a','ask':7,'plan':'no'}
		{'error':17}
		{'find':'a','ask':{},'plan':'no'}
		{'error':20}
		{'count':'b','ask':7}
		{'error':7}
		{'count':'a','ask':{'limit':0}}
		{'error':17}
		{'plans':'b','ask':7}
		{'error':7}
		{'plans':'a','ask':{'where':{'$no':1}}}
		{'error':17}
		{'updates':'b','where':7,'change':7}
		{'error':7}
		{'updates':'a','where':7,'change':7}
		{'error':17}
		{'updates':'a','where':{},'change':7}
		{'error':18}
		{'deletes':'b','where':7}
		{'error':7}
		{'deletes':'a','where':{'n':{'$gt':1,'$x':2}}}
		{'error':17}
		{'update':'b','id':1,'change':7}
		{'error':7}
		{'update':'a','id':2,'change':7}
		{'error':7}
		{'update':'a','id':1,'change':7}
		{'error':18}
		{'update':'a','id':1,'change':{'$set':{'_id':2},'$inc':{'t':1}}}
		{'error':14}
		{'update':'a','id':1,'change':{'$set':{'_id':2}}}
		{'error':18}
		{'insert':'b','doc':7}
		{'error':7}
		{'insert':'a','doc':7}
		{'error':14}
		{'index':'b','kind':'no','path':''}
		{'error':7}
		{'index':'a','kind':'no','path':''}
		{'error':19}
		{'index':'a','kind':'text','path':''}
		{'error':16}
		{'drop':'b'}
		{'error':7}
		{'get':'b','id':1}
		{'error':7}
		{'delete':'b','id':1}
		{'error':7}
		{'unindex':'b','kind':'no','path':''}
		{'error':7}
		{'unindex':'a','kind':'no','path':''}
		{'error':7}`)
}

func TestCreateDrop(t *testing.T) { // P25.1
	g, d := formatted(t, 1000, 512)
	name := func(i int) string { return letters(30) + fmt.Sprintf("%02d", i) } // as long as may be
	for i := range api.MaxSheets {
		does(t, g, "{'create':'"+name(i)+"'}")
	}
	tells(t, g, `
		{'create':'`+name(7)+`'}
		{'error':8}
		{'create':'more'}
		{'error':9}
		{'drop':'more'}
		{'error':7}
		{'drop':'`+name(7)+`'}
		{'ok':true}
		{'drop':'`+name(7)+`'}
		{'error':7}
		{'create':'more'}
		{'ok':true}
		{'create':'`+name(7)+`'}
		{'error':9}`)
	d.Crash(nil)
	g = opened(t, d)
	l, e := g.Sheets()
	if e != api.OK || len(l) != api.MaxSheets || slices.Contains(l, name(7)) || !slices.Contains(l, "more") || !slices.IsSorted(l) {
		t.Errorf("%v, %d", l, e)
	}
}

// TestDropGivesBack makes and drops so much that there is room for it only once.
func TestDropGivesBack(t *testing.T) { // P25.1
	g, _ := formatted(t, 100, 512)
	for range 40 {
		does(t, g, "{'create':'a'}", "{'index':'a','kind':'text','path':'t'}", "{'index':'a','kind':'spot','path':'at'}",
			"{'insert':'a','doc':{'_id':1,'t':'"+strings.Repeat("old ship ", 200)+"','at':{'type':'Point','coordinates':[1,1]}}}", "{'drop':'a'}")
	}
	tells(t, g, `
		{'create':'a'}
		{'ok':true}
		{'find':'a','ask':{}}
		{'ok':true,'found':[]}
		{'sheets':true}
		{'ok':true,'sheets':[['a',0,[]]]}`)
}

func TestIndexes(t *testing.T) { // P25.1
	g, _ := formatted(t, 300, 512)
	does(t, g, "{'create':'a'}", "{'insert':'a','doc':{'_id':1,'n':5,'t':'two ships','at':{'type':'Point','coordinates':[1,1]}}}")
	tells(t, g, `
		{'index':'a','kind':'order','path':'n'}
		{'ok':true}
		{'index':'a','kind':'order','path':'n'}
		{'error':8}
		{'index':'a','kind':'cell','path':'at'}
		{'ok':true}
		{'index':'a','kind':'spot','path':'at'}
		{'ok':true}
		{'index':'a','kind':'text','path':'t'}
		{'ok':true}
		{'plans':'a','ask':{'where':{'n':5,'at':{'$point':[0,0,2,2]}},'text':{'path':'t','words':'ship'}}}
		{'ok':true,'plans':['top:t','order:n&cell:at','order:n&spot:at','order:n&text:t','cell:at&spot:at','cell:at&text:t','spot:at&text:t','order:n','cell:at','spot:at','text:t','scan']}
		{'unindex':'a','kind':'cell','path':'n'}
		{'error':7}
		{'unindex':'a','kind':'cell','path':'at'}
		{'ok':true}
		{'unindex':'a','kind':'cell','path':'at'}
		{'error':7}
		{'sheets':true}
		{'ok':true,'sheets':[['a',1,[['order','n'],['spot','at'],['text','t']]]]}`)
	for i := range 5 {
		does(t, g, fmt.Sprintf("{'index':'a','kind':'order','path':'x%d'}", i))
	}
	tells(t, g, `
		{'index':'a','kind':'order','path':'x9'}
		{'error':9}
		{'index':'a','kind':'order','path':'n'}
		{'error':8}`)
}

func TestDocuments(t *testing.T) { // P25.1
	g, _ := formatted(t, 100, 512)
	tells(t, g, `
		{'create':'a'}
		{'ok':true}
		{'insert':'a','doc':{'_id':'x','n':1.50}}
		{'ok':true}
		{'insert':'a','doc':{'_id':'x'}}
		{'error':8}
		{'insert':'a','doc':{'n':1}}
		{'error':14}
		{'insert':'a','doc':{'_id':[1]}}
		{'error':14}
		{'insert':'a','doc':{'_id':'`+letters(64)+`'}}
		{'error':9}
		{'get':'a','id':'x'}
		{'ok':true,'doc':{'_id':'x','n':1.5}}
		{'get':'a','id':'y'}
		{'error':7}
		{'get':'a','id':[1]}
		{'error':7}
		{'get':'a','id':null}
		{'error':7}
		{'replace':'a','doc':{'_id':'y'}}
		{'error':7}
		{'replace':'a','doc':{'_id':null}}
		{'error':14}
		{'replace':'a','doc':{'a':'\u00e9\n','_id':'x'}}
		{'ok':true}
		{'get':'a','id':'x'}
		{'ok':true,'doc':{'a':'é\n','_id':'x'}}
		{'delete':'a','id':'y'}
		{'error':7}
		{'delete':'a','id':{}}
		{'error':7}
		{'delete':'a','id':'x'}
		{'ok':true}
		{'get':'a','id':'x'}
		{'error':7}
		{'find':'a','ask':{}}
		{'ok':true,'found':[]}`)
}

func TestUpdate(t *testing.T) { // P25.1
	g, _ := formatted(t, 100, 512)
	tells(t, g, `
		{'create':'a'}
		{'ok':true}
		{'insert':'a','doc':{'_id':1,'n':1,'t':'x'}}
		{'ok':true}
		{'update':'a','id':1,'change':{'$inc':{'n':1},'$push':{'l':7}}}
		{'ok':true,'doc':{'_id':1,'n':2,'t':'x','l':[7]}}
		{'get':'a','id':1}
		{'ok':true,'doc':{'_id':1,'n':2,'t':'x','l':[7]}}
		{'update':'a','id':1,'change':{'$set':{'_id':1}}}
		{'ok':true,'doc':{'_id':1,'n':2,'t':'x','l':[7]}}
		{'update':'a','id':1,'change':{'$set':{'_id':'1'}}}
		{'error':18}
		{'update':'a','id':1,'change':{'$set':{'_id':[1]}}}
		{'error':18}
		{'update':'a','id':1,'change':{'$unset':['_id']}}
		{'error':18}
		{'update':'a','id':1,'change':{'$rename':{'n':'_id'}}}
		{'error':18}
		{'update':'a','id':1,'change':{}}
		{'error':18}
		{'update':'a','id':1,'change':{'$inc':{'t':1}}}
		{'error':14}
		{'update':'a','id':1,'change':{'$mul':{'n':900000000000}}}
		{'error':12}
		{'update':'a','id':2,'change':{'$inc':{'n':1}}}
		{'error':7}
		{'update':'a','id':null,'change':{'$inc':{'n':1}}}
		{'error':7}
		{'get':'a','id':1}
		{'ok':true,'doc':{'_id':1,'n':2,'t':'x','l':[7]}}`)
}

func TestUpdates(t *testing.T) { // P25.1: of all documents, by their names, all or none
	g, _ := formatted(t, 200, 512)
	does(t, g, "{'create':'a'}", "{'index':'a','kind':'order','path':'n'}",
		"{'insert':'a','doc':{'_id':3,'n':3}}", "{'insert':'a','doc':{'_id':1,'n':1}}", "{'insert':'a','doc':{'_id':2,'n':2,'m':'x'}}", "{'insert':'a','doc':{'_id':'z','n':4,'k':9}}")
	tells(t, g, `
		{'updates':'a','where':{'n':{'$gte':2}},'change':{'$inc':{'n':10}}}
		{'ok':true,'count':3}
		{'find':'a','ask':{'where':{'n':{'$lt':99}}},'plan':'order:n'}
		{'ok':true,'found':[{'doc':{'_id':1,'n':1},'score':0},{'doc':{'_id':2,'n':12,'m':'x'},'score':0},{'doc':{'_id':3,'n':13},'score':0},{'doc':{'_id':'z','n':14,'k':9},'score':0}]}
		{'updates':'a','where':{'n':99},'change':{'$inc':{'n':10}}}
		{'ok':true,'count':0}
		{'updates':'a','where':{},'change':{'$inc':{'m':1}}}
		{'error':14}
		{'updates':'a','where':{},'change':{'$rename':{'k':'_id'}}}
		{'error':18}
		{'updates':'a','where':{},'change':{'$inc':{'m':1},'$rename':{'k':'_id'}}}
		{'error':14}
		{'updates':'a','where':{'_id':'z'},'change':{'$inc':{'m':1},'$rename':{'k':'_id'}}}
		{'error':18}
		{'find':'a','ask':{'where':{'n':{'$lt':99}}},'plan':'order:n'}
		{'ok':true,'found':[{'doc':{'_id':1,'n':1},'score':0},{'doc':{'_id':2,'n':12,'m':'x'},'score':0},{'doc':{'_id':3,'n':13},'score':0},{'doc':{'_id':'z','n':14,'k':9},'score':0}]}`)
	does(t, g, "{'replace':'a','doc':{'_id':1,'n':1,'k':'z'}}") // now the first one on the way would lose its name, ahead of one that can't be changed
	tells(t, g, `
		{'updates':'a','where':{},'change':{'$inc':{'m':1},'$rename':{'k':'_id'}}}
		{'error':18}`)
}

func TestDeletes(t *testing.T) { // P25.1
	g, _ := formatted(t, 200, 512)
	does(t, g, "{'create':'a'}", "{'index':'a','kind':'text','path':'t'}", "{'insert':'a','doc':{'_id':1,'t':'ship'}}", "{'insert':'a','doc':{'_id':2,'t':'ships'}}", "{'insert':'a','doc':{'_id':3,'t':'town'}}")
	tells(t, g, `
		{'deletes':'a','where':{'t':'boat'}}
		{'ok':true,'count':0}
		{'deletes':'a','where':{'t':{'$words':'ship'}}}
		{'ok':true,'count':2}
		{'find':'a','ask':{'text':{'path':'t','words':'ship town'}},'plan':'text:t'}
		{'ok':true,'found':[{'doc':{'_id':3,'t':'town'},'score':257257}]}
		{'deletes':'a','where':{}}
		{'ok':true,'count':1}
		{'count':'a','ask':{}}
		{'ok':true,'count':0}`)
}

func TestFind(t *testing.T) { // P25.1, P2
	g, _ := formatted(t, 400, 512)
	does(t, g, "{'create':'a'}")
	for i := range 5 {
		does(t, g, fmt.Sprintf("{'insert':'a','doc':{'_id':%d,'n':%d,'t':'ship %s','at':{'type':'Point','coordinates':[%d,0]}}}", i, i%3, strings.Repeat("town ", i), 10-i))
	}
	script := `
		{'find':'a','ask':{'where':{'n':{'$gte':1}},'sort':[['n',true]],'fields':['n']}}
		{'ok':true,'found':[{'doc':{'_id':2,'n':2},'score':0},{'doc':{'_id':1,'n':1},'score':0},{'doc':{'_id':4,'n':1},'score':0}]}
		{'find':'a','ask':{'near':{'path':'at','at':[0,0]},'skip':1,'limit':2,'fields':['n']}}
		{'ok':true,'found':[{'doc':{'_id':3,'n':0},'score':0,'near':'4900000000000000'},{'doc':{'_id':2,'n':2},'score':0,'near':'6400000000000000'}]}
		{'find':'a','ask':{'near':{'path':'at','at':[10,0]},'limit':1,'fields':['x']}}
		{'ok':true,'found':[{'doc':{'_id':0},'score':0,'near':'0'}]}
		{'find':'a','ask':{'where':{'n':9},'near':{'path':'at','at':[0,0]}}}
		{'ok':true,'found':[]}
		{'count':'a','ask':{'where':{'n':{'$gte':1}},'skip':1,'limit':1}}
		{'ok':true,'count':3}`
	tells(t, g, script)
	does(t, g, "{'index':'a','kind':'spot','path':'at'}", "{'index':'a','kind':'order','path':'n'}", "{'index':'a','kind':'text','path':'t'}")
	tells(t, g, script)
	ask := "{'where':{'n':{'$lte':1}},'near':{'path':'at','at':[0,0]},'text':{'path':'t','words':'town','phrases':['ship']}}"
	replies := map[string]int{do(g, "{'find':'a','ask':"+ask+"}"): 1}
	for _, p := range plansFor(g, "a", strings.ReplaceAll(ask, "'", `"`)) {
		replies[do(g, "{'find':'a','plan':'"+p+"','ask':"+ask+"}")]++
	}
	if len(replies) != 1 {
		t.Errorf("plans tell different things: %v", replies)
	}
	tells(t, g, `
		{'find':'a','ask':{'where':{'n':1}},'plan':'order:t'}
		{'error':20}
		{'find':'a','ask':{'where':{'n':1}},'plan':''}
		{'error':20}`)
}

// nested is so many lists in one another.
func nested(n int) string { return strings.Repeat("[", n) + strings.Repeat("]", n) }

func TestDeep(t *testing.T) { // P25.1: replies that would be too deep
	g, _ := formatted(t, 200, 512)
	does(t, g, "{'create':'a'}", "{'create':'b'}", "{'insert':'a','doc':{'_id':1,'l':"+nested(28)+"}}")
	tells(t, g, `
		{'find':'a','ask':{}}
		{'ok':true,'found':[{'doc':{'_id':1,'l':`+nested(28)+`},'score':0}]}
		{'replace':'a','doc':{'_id':1,'l':`+nested(29)+`}}
		{'ok':true}
		{'find':'a','ask':{}}
		{'error':10}
		{'find':'a','ask':{'fields':['_id']}}
		{'ok':true,'found':[{'doc':{'_id':1},'score':0}]}
		{'replace':'a','doc':{'_id':1,'l':`+nested(30)+`}}
		{'ok':true}
		{'get':'a','id':1}
		{'ok':true,'doc':{'_id':1,'l':`+nested(30)+`}}
		{'update':'a','id':1,'change':{'$push':{'l':`+nested(10)+`}}}
		{'ok':true,'doc':{'_id':1,'l':[`+nested(29)+`,`+nested(10)+`]}}
		{'update':'a','id':1,'change':{'$push':{'l.0.0.0.0':`+nested(26)+`}}}
		{'error':10}
		{'get':'a','id':1}
		{'ok':true,'doc':{'_id':1,'l':[`+nested(29)+`,`+nested(10)+`]}}
		{'updates':'a','where':{},'change':{'$push':{'l.0.0.0.0':`+nested(26)+`}}}
		{'ok':true,'count':1}
		{'get':'a','id':1}
		{'error':10}
		{'updates':'a','where':{},'change':{'$push':{'l.0.0.0.0':`+nested(27)+`}}}
		{'error':10}
		{'updates':'a','where':{},'change':{'$set':{'l.0.0.0.0':`+nested(2)+`}}}
		{'ok':true,'count':1}
		{'get':'a','id':1}
		{'ok':true,'doc':{'_id':1,'l':[`+nested(5)+`,`+nested(10)+`]}}`)
}

func TestLong(t *testing.T) { // P25.1: replies that would be too long
	g, d := formatted(t, 4000, 1024)
	does(t, g, "{'create':'a'}")
	fill := func(id, n int) string { return fmt.Sprintf("{'_id':%d,'t':'%s'}", id, strings.Repeat("x", n)) }
	each := len("{'doc':,'score':0},") + len(fill(10, 60000))
	rest := 1<<20 - len("{'ok':true,'found':[]}") - 17*each - len("{'doc':,'score':0}") - len(fill(99, 0))
	for i := range 17 {
		does(t, g, "{'insert':'a','doc':"+fill(10+i, 60000)+"}")
	}
	does(t, g, "{'insert':'a','doc':"+fill(99, rest)+"}")
	if reply := do(g, "{'find':'a','ask':{}}"); len(reply) != 1<<20 || !strings.HasPrefix(reply, "{'ok':true,'found':[{'doc':{'_id':10,") {
		t.Errorf("a reply of %d bytes: %.100s", len(reply), reply)
	}
	does(t, g, "{'replace':'a','doc':"+fill(99, rest+1)+"}")
	tells(t, g, `
		{'find':'a','ask':{}}
		{'error':9}
		{'find':'a','ask':{'limit':17,'skip':17,'fields':['_id']}}
		{'ok':true,'found':[{'doc':{'_id':99},'score':0}]}
		{'count':'a','ask':{}}
		{'ok':true,'count':18}`)
	if d.Loose() != 0 {
		t.Errorf("%d loose writes", d.Loose())
	}
}

func TestLongDocuments(t *testing.T) { // P25.1: a document that a change makes too long
	g, _ := formatted(t, 2000, 512)
	does(t, g, "{'create':'a'}", "{'insert':'a','doc':{'_id':1,'n':1}}", "{'insert':'a','doc':{'_id':2,'t':'"+strings.Repeat("x", 60000)+"'}}", "{'insert':'a','doc':{'_id':3,'n':'x'}}")
	before := do(g, "{'get':'a','id':1}")
	more := strings.Repeat("y", 6000)
	tells(t, g, `
		{'update':'a','id':2,'change':{'$set':{'u':'`+more+`'}}}
		{'error':9}
		{'updates':'a','where':{},'change':{'$set':{'u':'`+more+`'},'$inc':{'n':1}}}
		{'error':9}
		{'updates':'a','where':{'_id':{'$ne':2}},'change':{'$set':{'u':'`+more+`'},'$inc':{'n':1}}}
		{'error':14}`)
	if do(g, "{'get':'a','id':1}") != before {
		t.Error("it was done by halves")
	}
}

func TestFull(t *testing.T) { // P25.2: what tells ErrFull has done nothing
	for _, sectors := range []int{24, 60, 120} {
		g, d := formatted(t, sectors, 512)
		does(t, g, "{'create':'a'}", "{'create':'b'}")
		do(g, "{'index':'a','kind':'text','path':'t'}")
		last := ""
		for i := 0; last != "{'error':6}"; i++ {
			before := all(g)
			last = do(g, fmt.Sprintf("{'insert':'a','doc':{'_id':%d,'n':1,'t':'the ships %d'}}", i, i))
			if last == "{'error':6}" && all(g) != before {
				t.Fatalf("%s\nnot\n%s", all(g), before)
			}
		}
		before := all(g)
		long := strings.Repeat("wide ", 20)
		for _, c := range []string{
			"{'insert':'b','doc':{'_id':1,'t':'" + strings.Repeat("wide ", 9*sectors) + "'}}",
			"{'updates':'a','where':{},'change':{'$set':{'t':'" + strings.Repeat(long, sectors/8) + "'}}}",
		} {
			if reply := do(g, c); reply != "{'error':6}" || all(g) != before {
				t.Fatalf("%d sectors: %.60s: %s\n%s\nnot\n%s", sectors, c, reply, all(g), before)
			}
		}
		if g.Dead() {
			t.Error("it is dead")
		}
		d.Crash(nil)
		if g = opened(t, d); all(g) != before {
			t.Fatalf("%s\nnot\n%s", all(g), before)
		}
		does(t, g, "{'delete':'a','id':0}")
	}
}

// TestFirstTwelve does the first 12 commands, of at most 400 bytes, that ask for as much room as they can.
func TestFirstTwelve(t *testing.T) { // P25.2
	words := func(n int) string { // many short words
		var l []string
		for i := range n {
			l = append(l, string(rune('a'+i%26))+string(rune('0'+i/26)))
		}
		return strings.Join(l, " ")
	}
	for _, script := range [][]string{
		slices.Repeat([]string{"{'insert':'a','doc':{'_id':%d,'t':'" + words(117) + "'}}"}, 12),
		slices.Repeat([]string{"{'insert':'a','doc':{'_id':%d,'t':'" + words(58) + "','u':'" + words(58) + "','m':%[1]d}}", "{'index':'a','kind':'text','path':'t'}"}, 6),
		{"{'insert':'a','doc':{'_id':%d}}", "{'insert':'a','doc':{'_id':%d}}", "{'insert':'a','doc':{'_id':%d}}", "{'index':'a','kind':'text','path':'t'}", "{'index':'a','kind':'order','path':'t'}", "{'index':'a','kind':'text','path':'u'}", "{'updates':'a','where':{},'change':{'$set':{'t':'" + words(100) + "'}}}", "{'updates':'a','where':{},'change':{'$set':{'u':'" + words(100) + "'}}}", "{'updates':'a','where':{},'change':{'$set':{'t':'%d'}}}", "{'deletes':'a','where':{}}", "{'drop':'a'}"},
	} {
		g, _ := formatted(t, 4000, 512)
		does(t, g, "{'create':'a'}")
		for i, c := range script[:min(len(script), 11)] {
			if strings.Contains(c, "%") {
				c = fmt.Sprintf(c, i)
			}
			if len(c) > 400 {
				t.Fatalf("%d bytes: %s", len(c), c)
			}
			if reply := do(g, c); reply == "{'error':6}" {
				t.Fatalf("%s: %s", c, reply)
			}
		}
	}
}

func TestDead(t *testing.T) { // P25.1, R2: what an engine tells that could not do something to the end
	g, d := formatted(t, 100, 512)
	does(t, g, "{'create':'a'}", "{'create':'b'}", "{'insert':'a','doc':{'_id':1}}")
	wants := all(g)
	d.Arm(1)
	tells(t, g, `
		{'insert':'a','doc':{'_id':2}}
		{'error':4}
		{'insert':'a','doc':{'_id':3}}
		{'error':21}
		{'get':'a','id':2}
		{'error':21}
		{'find':'a','ask':{}}
		{'error':21}
		{'sheets':true}
		{'error':21}
		{'checkpoint':true}
		{'error':21}
		{'create':'c'}
		{'error':21}
		{'create':'C'}
		{'error':22}
		{'create':
		{'error':11}`)
	if l, e := g.Sheets(); l != nil || e != api.ErrState || !g.Dead() {
		t.Errorf("%v, %d, %v", l, e, g.Dead())
	}
	d.Crash(nil)
	if g = opened(t, d); all(g) != wants || g.Dead() {
		t.Errorf("%s\nnot\n%s", all(g), wants)
	}
}

func TestDeadButWhole(t *testing.T) { // P25.1: an engine whose pool died, but with no changes in it, tells what there is
	g, d := formatted(t, 100, 512)
	does(t, g, "{'create':'a'}", "{'create':'b'}", "{'insert':'a','doc':{'_id':1}}")
	wants := all(g)
	d.Arm(1)
	tells(t, g, `
		{'checkpoint':true}
		{'error':4}
		{'checkpoint':true}
		{'error':21}`)
	if !g.Dead() || all(g) != wants { // it is all in memory
		t.Errorf("%s\nnot\n%s", all(g), wants)
	}
	tells(t, g, `
		{'insert':'a','doc':{'_id':1}}
		{'error':8}
		{'insert':'a','doc':{'_id':2}}
		{'error':21}
		{'drop':'a'}
		{'error':21}
		{'updates':'a','where':{},'change':{'$inc':{'n':1}}}
		{'error':21}
		{'create':'c'}
		{'error':21}`)
	if all(g) != wants {
		t.Errorf("%s\nnot\n%s", all(g), wants)
	}
	d.Crash(nil)
	g = opened(t, d)
	does(t, g, "{'checkpoint':true}")
	downed(d)
	tells(t, g, `
		{'get':'a','id':1}
		{'error':4}
		{'get':'a','id':1}
		{'error':4}`)
	if !g.Dead() {
		t.Error("it is not dead")
	}
	d.Crash(nil)
	if all(g) != wants {
		t.Errorf("%s\nnot\n%s", all(g), wants)
	}
}

func TestCheckpoint(t *testing.T) { // P25.1
	g, d := formatted(t, 100, 512)
	does(t, g, "{'create':'a'}", "{'insert':'a','doc':{'_id':1}}")
	before, _ := d.Read(0)
	other, _ := d.Read(1)
	does(t, g, "{'checkpoint':true}")
	behind, _ := d.Read(0)
	another, _ := d.Read(1)
	if bytes.Equal(before, behind) == bytes.Equal(other, another) {
		t.Error("not one head was written")
	}
	tells(t, g, `
		{'find':'a','ask':{}}
		{'ok':true,'found':[{'doc':{'_id':1},'score':0}]}`)
}

// TestEveryWrite lets the disk go down at each write of each of some commands.
func TestEveryWrite(t *testing.T) { // P3, P25.2
	script := []string{"{'create':'a'}", "{'create':'b'}", "{'index':'a','kind':'spot','path':'at'}", "{'insert':'a','doc':{'_id':1,'n':1,'t':'old ship','at':{'type':'Point','coordinates':[1,1]}}}", "{'insert':'a','doc':{'_id':2,'n':2,'t':'a ship'}}",
		"{'index':'a','kind':'text','path':'t'}", "{'insert':'b','doc':{'_id':1,'t':'" + strings.Repeat("ship ", 300) + "'}}", "{'updates':'a','where':{},'change':{'$inc':{'n':1}}}", "{'update':'a','id':2,'change':{'$set':{'t':'boat'}}}", "{'replace':'b','doc':{'_id':1}}",
		"{'checkpoint':true}", "{'deletes':'a','where':{'n':{'$lt':9}}}", "{'unindex':'a','kind':'text','path':'t'}", "{'drop':'a'}"}
	g, d := formatted(t, 60, 512)
	m := model{}
	points := 0
	for _, c := range script {
		c = strings.ReplaceAll(c, "'", `"`)
		_, after := m.do([]byte(c))
		for n := 1; ; n++ {
			now := d.Copy()
			h := opened(t, now)
			now.Arm(n)
			reply := string(h.Do([]byte(c)))
			if !now.Down() {
				break
			}
			if !isError(reply, api.ErrDown) {
				t.Fatalf("%s: %s", c, reply)
			}
			for _, fates := range [][]int{nil, slices.Repeat([]int{2*512 + 1}, 60), append(slices.Repeat([]int{1}, max(0, now.Loose()-1)), 100), {1}, {0, 1, 0, 1, 0, 1, 300}} {
				behind := now.Copy()
				behind.Crash(fates)
				h := opened(t, behind)
				if stateIs(h, m) != "" {
					wantState(t, h, after)
				}
				points++
			}
		}
		does(t, g, c)
		m = after
		wantState(t, g, m)
	}
	if points < 300 {
		t.Errorf("only %d crashes", points)
	}
}

// TestFormatAgain formats an engine where one is, and lets the disk go down at each write: behind it there is the one that was, or one without sheets.
func TestFormatAgain(t *testing.T) { // P3, P25.1
	g, d := formatted(t, 60, 512)
	does(t, g, "{'create':'a'}", "{'create':'b'}", "{'index':'a','kind':'text','path':'t'}")
	for i := range 9 {
		does(t, g, fmt.Sprintf("{'insert':'a','doc':{'_id':%d,'t':'old ships %[1]d'}}", i))
	}
	wants := all(g)
	kept := 0
	blank := "{'ok':true,'sheets':[]}{'error':7}{'error':7}"
	for n := 1; ; n++ {
		now := d.Copy()
		now.Arm(n)
		h, e := engine.Format(now)
		if !now.Down() {
			now.Arm(0)
			want(t, "Format", e, api.OK)
			if all(h) != blank || all(opened(t, now)) != blank {
				t.Fatalf("formatted anew: %s", all(h))
			}
			break
		}
		if h != nil || e != api.ErrDown {
			t.Fatalf("Format of a disk that goes down: %v, %d", h, e)
		}
		for _, fates := range [][]int{nil, slices.Repeat([]int{2*512 + 1}, 60), {1, 100}} {
			behind := now.Copy()
			behind.Crash(fates)
			behind.Arm(n % 7) // it may go down once more while it is opened
			h, e := engine.Open(behind)
			if e == api.ErrDown {
				behind.Crash(fates)
				h, e = engine.Open(behind)
			}
			behind.Arm(0)
			want(t, "Open", e, api.OK)
			switch all(h) {
			case wants:
				kept++
			case blank:
				does(t, h, "{'create':'a'}", "{'insert':'a','doc':{'_id':1}}")
			default:
				t.Fatalf("write %d: %s", n, all(h))
			}
		}
	}
	if kept == 0 {
		t.Error("the old engine was never there")
	}
}

// TestFormatAgainHasRoom fills an engine that was formatted where a full one was.
func TestFormatAgainHasRoom(t *testing.T) { // P25.1
	fill := func(g *engine.Engine) int {
		does(t, g, "{'create':'a'}", "{'create':'b'}", "{'create':'c'}")
		for i := 0; ; i++ {
			if do(g, fmt.Sprintf("{'insert':'a','doc':{'_id':%d,'t':'old ships %[1]d'}}", i)) == "{'error':6}" {
				return i
			}
		}
	}
	for _, sectors := range []int{24, 60} {
		g, d := formatted(t, sectors, 512)
		wants := fill(g)
		for range 3 {
			g, e := engine.Format(d)
			want(t, "Format", e, api.OK)
			if n := fill(g); n != wants {
				t.Fatalf("%d documents, not %d", n, wants)
			}
		}
	}
}

func TestFormatOnRuins(t *testing.T) { // P25.1: whatever stands there
	d := disk.New(60, 512)
	for at := range 60 {
		d.Write(at, bytes.Repeat([]byte{byte(at), 7}, 256))
	}
	d.Flush()
	if g, e := engine.Open(d); g != nil || e != api.ErrForm {
		t.Errorf("%v, %d", g, e)
	}
	g, e := engine.Format(d)
	want(t, "Format", e, api.OK)
	does(t, g, "{'create':'a'}")
	g, e = engine.Format(d)
	want(t, "Format", e, api.OK)
	tells(t, g, `
		{'sheets':true}
		{'ok':true,'sheets':[]}`)
}

// TestRuins opens engines of which some sectors were overwritten: nothing panics, and all ends.
func TestRuins(t *testing.T) { // R1
	g, d := formatted(t, 60, 512)
	does(t, g, "{'create':'a'}", "{'create':'b'}", "{'index':'a','kind':'text','path':'t'}", "{'index':'a','kind':'spot','path':'at'}")
	for i := range 6 {
		does(t, g, fmt.Sprintf("{'insert':'a','doc':{'_id':%d,'t':'old ships %[1]d','at':{'type':'Point','coordinates':[%[1]d,2]}}}", i))
	}
	does(t, g, "{'checkpoint':true}")
	for at := range 60 {
		for _, fill := range []byte{0, 1, 255} {
			now := d.Copy()
			now.Write(at, bytes.Repeat([]byte{fill}, 512))
			g, e := engine.Open(now)
			if e != api.OK {
				continue
			}
			if _, e := g.Sheets(); e != api.OK {
				t.Errorf("sector %d: an engine was opened whose sheets can't be told: %d", at, e)
			}
			all(g)
			do(g, "{'insert':'a','doc':{'_id':77,'t':'ship'}}")
			do(g, "{'updates':'a','where':{},'change':{'$inc':{'n':1}}}")
			do(g, "{'find':'a','ask':{'text':{'path':'t','words':'ship'}}}")
			do(g, "{'drop':'a'}")
			do(g, "{'create':'a'}")
			all(g)
		}
	}
}

func TestMemory(t *testing.T) { // R4
	g, _ := formatted(t, 100, 512)
	c := append(make([]byte, 0, 500), `{"create":"a"}`...)
	spare := c[len(c):cap(c)]
	g.Do(c)
	if string(c) != `{"create":"a"}` || slices.Max(spare) > 0 {
		t.Error("a command was changed")
	}
	c = []byte(`{"insert":"a","doc":{"_id":"name","t":"text"}}`)
	g.Do(c)
	for i := range c {
		c[i] = 'x'
	}
	get := []byte(`{"get":"a","id":"name"}`)
	wants := `{"ok":true,"doc":{"_id":"name","t":"text"}}`
	reply := g.Do(get)
	if string(reply) != wants {
		t.Errorf("a command is kept: %s", reply)
	}
	for i := range reply {
		reply[i] = 'x'
	}
	l, _ := g.Sheets()
	l[0] = "x"
	if l, _ := g.Sheets(); l[0] != "a" || string(g.Do(get)) != wants {
		t.Error("replies share memory")
	}
	no := g.Do([]byte("{}"))
	no[0] = 'x'
	if string(g.Do([]byte("{}"))) != `{"error":22}` {
		t.Error("replies share memory")
	}
}

// TestSameDisk does the same twice, and wants the same disk behind it, byte by byte.
func TestSameDisk(t *testing.T) { // R5
	run := func() [][]byte {
		g, d := formatted(t, 300, 512)
		r := maker{rand.New(rand.NewSource(5))}
		for range 200 {
			g.Do(r.bytes())
		}
		var l [][]byte
		for at := range 300 {
			b, _ := d.Read(at)
			l = append(l, b)
		}
		return l
	}
	wants := run()
	for range 4 {
		if !slices.EqualFunc(run(), wants, bytes.Equal) {
			t.Fatal("another disk")
		}
	}
}
