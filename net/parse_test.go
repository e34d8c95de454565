package net_test

import (
	"math/rand"
	"slices"
	"strconv"
	"strings"
	"testing"

	"fairlead/api"
	"fairlead/bits"
	"fairlead/header"
	"fairlead/net"
	"fairlead/oops"
	"fairlead/table"
)

// parts of a network's text, for what a test doesn't speak of.
const (
	someRouters = `["r","s"]`
	someLabels  = `{"a":"ip","b":"ip","c":"smpls","d":"smpls","e":"mpls","f":"mpls"}`
	someLinks   = `{"l0":{"from":"r","to":"s","dist":0},"l1":{"from":"s","to":"r","dist":1},"l2":{"from":"r","to":"s","dist":2},"l3":{"from":"s","to":"r","dist":3},"l4":{"from":"r","to":"s","dist":4},"l5":{"from":"s","to":"r","dist":5}}`
)

// netText: a network's text of four members.
func netText(routers, labels, links, table string) string {
	return `{"routers":` + routers + `,"labels":` + labels + `,"links":` + links + `,"table":` + table + `}`
}

// rowsText: the text of a network of sample's, with these rows.
func rowsText(rows string) string { return netText(someRouters, someLabels, someLinks, rows) }

// groupsText: the same with one row, of l0 and a label, with these groups.
func groupsText(top, groups string) string {
	return rowsText(`[{"in":"l0","top":"` + top + `","groups":` + groups + `}]`)
}

// entryText: the same with one group of one entry.
func entryText(top, entry string) string { return groupsText(top, `[[`+entry+`]]`) }

// chainOf: the same with one entry, by l1, with these ops.
func chainOf(top, chain string) string { return entryText(top, `{"out":"l1","ops":`+chain+`}`) }

// parsed: the network of a text that is one.
func parsed(t *testing.T, what, s string) net.Net {
	t.Helper()
	n, err := net.Parse(s)
	checkNil(t, what, err)
	checkNil(t, what+": it may be", n.Check())
	return n
}

// reads: is a text read as that?
func reads(t *testing.T, what, s, want string) {
	t.Helper()
	check(t, what, text(parsed(t, what, s)), want)
}

// refused: is a text refused, at the place of the @ in it, within these words
// (a blank between)?
func refused(t *testing.T, what, marked string, code api.Errno, words string) {
	t.Helper()
	ahead, behind, ok := strings.Cut(marked, "@")
	if !ok {
		t.Fatalf("%s: no @ in %s", what, marked)
	}
	refusedWithin(t, what, ahead+behind, code, len(ahead), strings.Fields(words)...)
}

func refusedWithin(t *testing.T, what, s string, code api.Errno, at int, words ...string) {
	t.Helper()
	n, err := net.Parse(s)
	checkFault(t, what, err, code, at, words...)
	check(t, what+": the network beside", text(n), text(net.Net{}))
}

// list: so many texts in an array.
func list(n int, item func(i int) string) string { return "[" + joined(n, item) + "]" }

// joined: so many texts with commas between.
func joined(n int, item func(i int) string) string {
	var l []string
	for i := range n {
		l = append(l, item(i))
	}
	return strings.Join(l, ",")
}

// always: the same text for each.
func always(s string) func(i int) string { return func(int) string { return s } }

func quoted(s string) string { return `"` + s + `"` }

// numbered: a letter, and a number of three digits, quoted.
func numbered(letter string, i int) string { return quoted(letter + strconv.Itoa(100+i)) }

// kindless are values of each kind, a @ ahead, but one kind.
func kindless(but string) []string {
	var l []string
	for _, s := range []string{"null", "false", "true", "7", `"text"`, "[]", "{}"} {
		if s != but {
			l = append(l, "@"+s)
		}
	}
	return l
}

// P13.2: the network of a text.
func TestParse(t *testing.T) {
	reads(t, "none", `{"routers":[],"labels":{},"links":{},"table":[]}`, ":::")
	reads(t, "the sample", rowsText(`[]`), text(sample()))
	reads(t, "rows", rowsText(`[{"in":"l0","top":"a","groups":[[{"out":"l1","ops":[]},{"out":"l3","ops":["push c","push e"]}],[{"out":"l5","ops":["swap b"]}]]},{"in":"l1","top":"f","groups":[[{"out":"l0","ops":["pop","pop","swap a"]}]]}]`),
		text(sample(row(0, ip0, group(entry(1), entry(3, push(bottom0), push(mid0))), group(entry(5, swap(ip1)))), row(1, mid1, group(entry(0, pop, pop, swap(ip0)))))))
	reads(t, "routers alone", netText(`["b","a"]`, `{}`, `{}`, `[]`), "a b:::")
	reads(t, "a loop", netText(`["a"]`, `{}`, `{"l":{"from":"a","to":"a","dist":9223372036854775807}}`, `[]`), "a:: l=0,0,9223372036854775807:")
	reads(t, "one name of all", netText(`["a"]`, `{"a":"ip"}`, `{"a":{"from":"a","to":"a","dist":7}}`, `[{"in":"a","top":"a","groups":[[{"out":"a","ops":["swap a"]}]]}]`),
		"a: a=1: a=0,0,7: 0-0[(0 2/0)]")
	reads(t, "the names of members, and ops", netText(`["in","push"]`, `{"pop":"ip","routers":"smpls"}`, `{"top":{"from":"in","to":"in","dist":7}}`, `[{"in":"top","top":"pop","groups":[[{"out":"top","ops":["swap pop","push routers","pop"]}]]}]`),
		"in push: pop=1 routers=2: top=0,0,7: 0-0[(0 2/0 3/1 1/0)]")
	long := strings.Repeat("a", 32)
	reads(t, "names of 32 bytes", netText(`["`+long+`"]`, `{"`+long+`":"ip"}`, `{}`, `[]`), long+": "+long+"=1::")
}

// P13.2: names are numbered by their order, in whatever order they come.
func TestParseOrder(t *testing.T) {
	reads(t, "routers, labels, links", netText(`["s","_","r","R"]`, `{"c":"smpls","a":"mpls","b":"ip"}`, `{"l1":{"from":"s","to":"r","dist":1},"L":{"to":"_","from":"R","dist":2},"l0":{"dist":3,"to":"s","from":"s"}}`, `[]`),
		"R _ r s: a=3 b=1 c=2: L=0,1,2 l0=3,3,3 l1=3,2,1:")
	rows := []string{
		`{"in":"l0","top":"b","groups":[[{"out":"l3","ops":[]}]]}`,
		`{"in":"l2","top":"a","groups":[[{"out":"l5","ops":[]}]]}`,
		`{"in":"l0","top":"a","groups":[[{"out":"l1","ops":[]}]]}`,
		`{"in":"l1","top":"f","groups":[[{"out":"l4","ops":[]}]]}`,
	}
	want := text(sample(row(0, 0, group(entry(1))), row(0, 1, group(entry(3))), row(1, 5, group(entry(4))), row(2, 0, group(entry(5)))))
	for range 24 {
		reads(t, "rows", rowsText("["+strings.Join(rows, ",")+"]"), want)
		rows = append(rows[1:], rows[0])
		rows[0], rows[1] = rows[1], rows[0]
	}
	reads(t, "groups and entries stay", rowsText(`[{"in":"l0","top":"a","groups":[[{"out":"l3","ops":[]},{"out":"l1","ops":[]},{"out":"l3","ops":[]}],[{"out":"l1","ops":[]}],[{"out":"l1","ops":[]}]]}]`),
		text(sample(row(0, 0, group(entry(3), entry(1), entry(3)), group(entry(1)), group(entry(1))))))
}

// P13.2: just as many as there may be.
func TestParseMost(t *testing.T) {
	n := parsed(t, "64 routers", netText(list(64, func(i int) string { return numbered("r", 63-i) }), `{}`, `{}`, `[]`))
	check(t, "64 routers: the last", n.Topo.Router("r163"), 63)
	n = parsed(t, "64 labels", netText(`[]`, "{"+joined(64, func(i int) string { return numbered("x", 63-i) + `:"mpls"` })+"}", `{}`, `[]`))
	check(t, "64 labels: the last", n.Label("x163"), 63)
	n = parsed(t, "64 links", netText(`["r"]`, `{}`, "{"+joined(64, func(i int) string { return numbered("l", 63-i) + `:{"from":"r","to":"r","dist":0}` })+"}", `[]`))
	check(t, "64 links: the last", n.Topo.Link("l163"), 63)
	n = parsed(t, "256 rows", manyRows(256))
	check(t, "256 rows: how many", len(n.Rows), 256)
	check(t, "256 rows: the last", rowText(n.Rows[255]), "63-3[(63)]")
	n = parsed(t, "8 groups of 8 entries", groupsText("a", list(8, always(list(8, always(`{"out":"l1","ops":[]}`))))))
	check(t, "8 groups", len(n.Rows[0].Groups), 8)
	check(t, "8 entries", len(n.Rows[0].Groups[7]), 8)
	n = parsed(t, "8 ops", chainOf("e", list(8, always(`"pop"`))))
	check(t, "8 ops", chainText(n.Rows[0].Groups[0][0].Ops), strings.Repeat(" 1/0", 8))
}

// manyRows: a text of 64 links, 5 labels, and so many rows.
func manyRows(n int) string {
	links := "{" + joined(64, func(i int) string { return numbered("l", i) + `:{"from":"r","to":"r","dist":0}` }) + "}"
	rows := list(n, func(i int) string {
		link := numbered("l", i%64)
		return `{"in":` + link + `,"top":` + numbered("x", i/64) + `,"groups":[[{"out":` + link + `,"ops":[]}]]}`
	})
	return netText(`["r"]`, "{"+joined(5, func(i int) string { return numbered("x", i) + `:"ip"` })+"}", links, rows)
}

// P13.2: layer 5's errors, within "text".
func TestParseText(t *testing.T) {
	refused(t, "the empty text", `@`, api.ErrShort, "text")
	refused(t, "a text that ends", `{"routers":[@`, api.ErrShort, "text")
	refused(t, "no value", `{"routers":[1,@]`, api.ErrForm, "text")
	refused(t, "more behind", netText(`[]`, `{}`, `{}`, `[]`)+"@,", api.ErrForm, "text")
	refused(t, "a member twice", `{"routers":0,@"routers":[]}`, api.ErrTwice, "text")
	refused(t, "a label twice", netText(`7`, `{"a":"ip",@"a":"ip"}`, `{}`, `[]`), api.ErrTwice, "text")
	refused(t, "a number", netText(`[]`, `{}`, `{"l":{"dist":@9223372036854775808}}`, `[]`), api.ErrRange, "text")
	refused(t, "too deep", netText(strings.Repeat("[", 63)+"@[", `{}`, `{}`, `[]`), api.ErrDeep, "text")
	refusedWithin(t, "too long", netText(`[]`, `{}`, `{}`, `[]`)+strings.Repeat(" ", api.MaxText), api.ErrLong, api.MaxText, "text")
	short := netText(`[]`, `{}`, `{}`, `[]`)
	reads(t, "as long as may be", short+strings.Repeat(" ", api.MaxText-len(short)), ":::")
}

// P13.2: a value that isn't of the kind that must stand there.
func TestParseKind(t *testing.T) {
	for _, v := range kindless("{}") {
		refused(t, "a network", " "+v, api.ErrKind, "")
		refused(t, "labels", netText(someRouters, v, someLinks, `[]`), api.ErrKind, "labels")
		refused(t, "links", netText(someRouters, someLabels, v, `[]`), api.ErrKind, "links")
		refused(t, "a link", netText(someRouters, someLabels, `{"l":`+v+`}`, `[]`), api.ErrKind, "links l")
		refused(t, "a row", rowsText(`[`+v+`]`), api.ErrKind, "table 0")
		refused(t, "an entry", entryText("a", v), api.ErrKind, "table 0 groups 0 0")
	}
	for _, v := range kindless("[]") {
		refused(t, "routers", netText(v, someLabels, someLinks, `[]`), api.ErrKind, "routers")
		refused(t, "a table", rowsText(v), api.ErrKind, "table")
		refused(t, "groups", groupsText("a", v), api.ErrKind, "table 0 groups")
		refused(t, "a group", groupsText("a", `[`+v+`]`), api.ErrKind, "table 0 groups 0")
		refused(t, "ops", chainOf("a", v), api.ErrKind, "table 0 groups 0 0 ops")
	}
	for _, v := range kindless(`"text"`) {
		refused(t, "a router", netText(`[`+v+`]`, someLabels, someLinks, `[]`), api.ErrKind, "routers 0")
		refused(t, "a label's kind", netText(someRouters, `{"a":`+v+`}`, someLinks, `[]`), api.ErrKind, "labels a")
		refused(t, "from", netText(someRouters, `{}`, `{"l":{"from":`+v+`,"to":"r","dist":1}}`, `[]`), api.ErrKind, "links l from")
		refused(t, "to", netText(someRouters, `{}`, `{"l":{"from":"r","to":`+v+`,"dist":1}}`, `[]`), api.ErrKind, "links l to")
		refused(t, "in", rowsText(`[{"in":`+v+`,"top":"a","groups":[]}]`), api.ErrKind, "table 0 in")
		refused(t, "top", rowsText(`[{"in":"l0","top":`+v+`,"groups":[]}]`), api.ErrKind, "table 0 top")
		refused(t, "out", entryText("a", `{"out":`+v+`,"ops":[]}`), api.ErrKind, "table 0 groups 0 0 out")
		refused(t, "an op", chainOf("a", `[`+v+`]`), api.ErrKind, "table 0 groups 0 0 ops 0")
	}
	for _, v := range kindless("7") {
		refused(t, "dist", netText(someRouters, `{}`, `{"l":{"from":"r","to":"r","dist":`+v+`}}`, `[]`), api.ErrKind, "links l dist")
	}
}

// objects are the objects with told members, an @ for what stands there, and
// within what that is.
func objects() map[string]string {
	return map[string]string{
		"":                   `@`,
		"links l":            netText(someRouters, someLabels, `{"l":@}`, `[]`),
		"table 0":            rowsText(`[@]`),
		"table 0 groups 0 0": entryText("a", `@`),
	}
}

// P13.2: members that an object hasn't to have, and such as are missing.
func TestParseMembers(t *testing.T) {
	told := map[string][]string{
		"":                   {"routers", "labels", "links", "table"},
		"links l":            {"from", "to", "dist"},
		"table 0":            {"in", "top", "groups"},
		"table 0 groups 0 0": {"out", "ops"},
	}
	for words, around := range objects() {
		put := func(s string) string { return strings.Replace(around, "@", s, 1) }
		members := func(keys []string) string {
			return joined(len(keys), func(i int) string { return quoted(keys[i]) + ": 7" })
		}
		keys := told[words]
		refused(t, words+": none", put(`@{}`), api.ErrLack, words)
		for i := range keys {
			refused(t, words+": one", put(`@{`+members(keys[i:i+1])+`}`), api.ErrLack, words)
			less := slices.Delete(slices.Clone(keys), i, i+1)
			refused(t, words+": all but "+keys[i], put(`@{`+members(less)+`}`), api.ErrLack, words)
			refused(t, words+": another one, and "+keys[i]+" is missing", put(`{`+members(less)+`,"no":@7}`), api.ErrNone, words+" no")
			refused(t, words+": two more", put(`{`+members(keys[:i])+strings.Repeat(",", min(i, 1))+`"y":@1,"x":2,`+members(keys[i:])+`}`), api.ErrNone, words+" y")
			refused(t, words+": upper letters", put(`{"`+strings.ToUpper(keys[i])+`":@1}`), api.ErrNone, words+" "+strings.ToUpper(keys[i]))
		}
		refused(t, words+": one more", put(`{`+members(keys)+`,"more":@{}}`), api.ErrNone, words+" more")
	}
	refusedWithin(t, "an empty key", `{"":0}`, api.ErrNone, 4, "")
	refusedWithin(t, "a key with a blank, a line feed and a \"", `{"a b\n\"": 0}`, api.ErrNone, 12, "a b\n\"")
}

// P13.2: as many routers, labels, links, rows as there may not be.
func TestParseMany(t *testing.T) {
	r := func(i int) string { return numbered("r", i) }
	routers := func(more string) string {
		return netText("["+joined(64, r)+","+more+"]", `7`, `7`, `7`)
	}
	for _, more := range []string{`@"r164"`, `@"r100"`, `@"-"`, `@7`, `@"r164","r165"`, `@null,7,7`} {
		refused(t, "65 routers: "+more, routers(more), api.ErrMany, "routers 64")
	}
	labels := func(more string) string {
		return netText(`[]`, "{"+joined(64, func(i int) string { return r(i) + `:"ip"` })+","+more+"}", `7`, `7`)
	}
	refused(t, "65 labels", labels(`"a":@"ip"`), api.ErrMany, "labels a")
	refused(t, "66 labels", labels(`"b":@"ip","a":"ip"`), api.ErrMany, "labels b")
	refused(t, "65 labels: no name", labels(`"-": @"ip"`), api.ErrMany, "labels -")
	refused(t, "65 labels: no text", labels(`"-": @{}`), api.ErrMany, "labels -")
	refused(t, "65 labels: no kind", labels(`"a": @"7"`), api.ErrMany, "labels a")
	links := func(more string) string {
		return netText(`["r"]`, `{}`, "{"+joined(64, func(i int) string { return r(i) + `:{"from":"r","to":"r","dist":1}` })+","+more+"}", `7`)
	}
	refused(t, "65 links", links(`"a":@{"from":"r","to":"r","dist":1}`), api.ErrMany, "links a")
	refused(t, "65 links: no name", links(`"0": @{"from":"r","to":"r","dist":1}`), api.ErrMany, "links 0")
	refused(t, "65 links: no object", links(`"a":@7,"b":7`), api.ErrMany, "links a")
	refused(t, "65 links: no member", links(`"a":@{}`), api.ErrMany, "links a")
	rows := func(more string) string { return strings.TrimSuffix(manyRows(256), `]}`) + "," + more + "]}" }
	refused(t, "257 rows", rows(`@{"in":"l100","top":"x104","groups":[[{"out":"l100","ops":[]}]]}`), api.ErrMany, "table 256")
	refused(t, "257 rows: no object", rows(`@7,7`), api.ErrMany, "table 256")
	refused(t, "257 rows: a row twice", rows(`@{"in":"l100","top":"x100","groups":[]}`), api.ErrMany, "table 256")
}

// P13.2: what is wrong ahead of one too many is told ahead of that.
func TestParseManyBehind(t *testing.T) {
	refused(t, "a router", netText("["+joined(63, func(i int) string { return numbered("r", i) })+`,@"r100","x"]`, `7`, `7`, `7`), api.ErrTwice, "routers 63")
	refused(t, "a label", netText(`[]`, `{"z":@"",`+joined(64, func(i int) string { return numbered("x", i) + `:"ip"` })+"}", `{}`, `[]`), api.ErrArg, "labels z")
	refused(t, "a link", netText(`[]`, `{}`, `{"z":@7,`+joined(64, func(i int) string { return numbered("x", i) + `:7` })+"}", `[]`), api.ErrKind, "links z")
	refused(t, "a row", strings.Replace(manyRows(257), `"table":[{"in":"l100"`, `"table":[{"in":@"l"`, 1), api.ErrNone, "table 0 in")
}

// P13.2: arrays of groups, entries, ops, of too many, or none.
func TestParseFew(t *testing.T) {
	refused(t, "no groups", groupsText("a", `@[ ]`), api.ErrEmpty, "table 0 groups")
	refused(t, "no entries", groupsText("a", `[@[]]`), api.ErrEmpty, "table 0 groups 0")
	refused(t, "no entries of the second", groupsText("a", `[[{"out":"l1","ops":[]}],@[],7]`), api.ErrEmpty, "table 0 groups 1")
	refused(t, "9 groups", groupsText("a", "@"+list(9, always(`[{"out":"l1","ops":[]}]`))), api.ErrMany, "table 0 groups")
	refused(t, "9 groups, wrong ones", groupsText("a", "@"+list(9, always(`7`))), api.ErrMany, "table 0 groups")
	refused(t, "9 entries", groupsText("a", "["+"@"+list(9, always(`{"out":"l1","ops":[]}`))+"]"), api.ErrMany, "table 0 groups 0")
	refused(t, "9 entries, wrong ones", groupsText("a", "["+"@"+list(9, always(`[]`))+"]"), api.ErrMany, "table 0 groups 0")
	refused(t, "9 ops", chainOf("a", "@"+list(9, always(`"swap b"`))), api.ErrMany, "table 0 groups 0 0 ops")
	refused(t, "9 ops, wrong ones", chainOf("a", "@"+list(9, always(`7`))), api.ErrMany, "table 0 groups 0 0 ops")
	refused(t, "100 ops", chainOf("a", "@"+list(100, always(`"pop"`))), api.ErrMany, "table 0 groups 0 0 ops")
	reads(t, "no ops", chainOf("a", `[]`), text(sample(row(0, ip0, group(entry(1))))))
}

// wrongNames are texts that are no names, as they stand in a text.
func wrongNames() []string {
	return []string{"", "0", "1a", "-a", ".a", "a b", " r", "r ", `r\n`, "a/b", "a#b", "$ip", `\"`, `\\`, "a" + strings.Repeat("b", 32), strings.Repeat("a", 1000)}
}

// P13.2: names that are none.
func TestParseForm(t *testing.T) {
	for _, name := range wrongNames() {
		key := strings.NewReplacer(`\n`, "\n", `\"`, `"`, `\\`, `\`).Replace(name)
		s := netText(`["r","`+name+`"]`, `7`, `7`, `7`)
		refusedWithin(t, "a router "+name, s, api.ErrForm, strings.Index(s, `"r",`)+4, "routers", "1")
		for _, kind := range []string{`"ip"`, `"no"`, `7`} {
			s = netText(`[]`, `{"a":"ip","`+name+`":`+kind+`}`, `7`, `7`)
			refusedWithin(t, "a label "+name, s, api.ErrForm, strings.Index(s, kind+`},"links"`), "labels", key)
		}
		for _, link := range []string{`{"from":"r","to":"r","dist":1}`, `{}`, `7`} {
			s = netText(`["r"]`, `{}`, `{"`+name+`":`+link+`}`, `7`)
			refusedWithin(t, "a link "+name, s, api.ErrForm, strings.Index(s, link+`},"table"`), "links", key)
		}
	}
}

// P13.2: ops that are none.
func TestParseOpForm(t *testing.T) {
	for _, name := range wrongNames() {
		refused(t, "swap "+name, chainOf("a", `[@"swap `+name+`"]`), api.ErrForm, "table 0 groups 0 0 ops 0")
		refused(t, "push "+name, chainOf("a", `["swap b",@"push `+name+`","no"]`), api.ErrForm, "table 0 groups 0 0 ops 1")
	}
	for _, op := range []string{"", " ", "pop ", " pop", "pop a", "Pop", "POP", "po", "popp", "swap", "push", "swap  a", "swap a ", " swap a", "swap a a", `push\na`, "push-a", "pusha", "Push a", "pull a", "a", "pop zz", "swapa", "swap,a", `push a\n`} {
		refused(t, "an op "+op, chainOf("a", `[@"`+op+`"]`), api.ErrForm, "table 0 groups 0 0 ops 0")
	}
}

// P13.2: routers and rows that are there already.
func TestParseTwice(t *testing.T) {
	refused(t, "a router", netText(`["a","b",@"a"]`, `7`, `7`, `7`), api.ErrTwice, "routers 2")
	refused(t, "a router, again and again", netText(`["a",@"a","a","b","b"]`, `7`, `7`, `7`), api.ErrTwice, "routers 1")
	one := func(in, top, groups string) string {
		return `{"groups":` + groups + `,"top":"` + top + `","in":"` + in + `"}`
	}
	good := `[[{"out":"l1","ops":[]}]]`
	first := one("l0", "a", good) + "," + one("l2", "a", good) + "," + one("l0", "b", good) + ","
	refused(t, "a row", rowsText("["+first+"@"+one("l0", "a", good)+"]"), api.ErrTwice, "table 3")
	refused(t, "a row, ahead of its groups", rowsText("["+first+"@"+one("l0", "b", "7")+",7]"), api.ErrTwice, "table 3")
	refused(t, "a row, behind its top", rowsText("["+first+`{"groups":7,"in":"l0","top":@7}]`), api.ErrKind, "table 3 top")
	refused(t, "a row, behind its in", rowsText("["+first+`{"groups":7,"in":@"l6","top":"a"}]`), api.ErrNone, "table 3 in")
	refused(t, "a row, behind its members", rowsText("["+first+`{"groups":7,"in":"l0","top":"a","no":@1}]`), api.ErrNone, "table 3 no")
}

// P13.2: kinds' words.
func TestParseArg(t *testing.T) {
	for _, word := range []string{"", "no", "IP", "Ip", "ip ", " ip", "1", "smpl", "smplss", "mpls ", `ip\n`, "$ip"} {
		refused(t, "a kind "+word, netText(`[]`, `{"b":"ip","a":@"`+word+`"}`, `7`, `7`), api.ErrArg, "labels a")
	}
	reads(t, "the three", netText(`[]`, `{"b":"ip","c":"mpls","a":"smpls"}`, `{}`, `[]`), ": a=2 b=1 c=3::")
}

// P13.2: names that aren't there.
func TestParseNone(t *testing.T) {
	for _, name := range append(wrongNames(), "zz", "R", "rs", "l", "l00", "L0", "l6", "A", "g", "ip") {
		refused(t, "from "+name, netText(someRouters, `{}`, `{"l":{"from":@"`+name+`","to":7,"dist":7}}`, `[]`), api.ErrNone, "links l from")
		refused(t, "to "+name, netText(someRouters, `{}`, `{"l":{"from":"r","to":@"`+name+`","dist":""}}`, `[]`), api.ErrNone, "links l to")
		refused(t, "in "+name, rowsText(`[{"in":@"`+name+`","top":7,"groups":7}]`), api.ErrNone, "table 0 in")
		refused(t, "top "+name, rowsText(`[{"in":"l0","top":@"`+name+`","groups":7}]`), api.ErrNone, "table 0 top")
		refused(t, "out "+name, entryText("a", `{"out":@"`+name+`","ops":7}`), api.ErrNone, "table 0 groups 0 0 out")
	}
	for _, name := range []string{"zz", "A", "g", "ip", "l0", "r", "pop", strings.Repeat("a", 32)} {
		refused(t, "swap "+name, chainOf("a", `["swap b",@"swap `+name+`",7]`), api.ErrNone, "table 0 groups 0 0 ops 1")
		refused(t, "push "+name, chainOf("a", `[@"push `+name+`","no"]`), api.ErrNone, "table 0 groups 0 0 ops 0")
	}
	// names of another sort of thing aren't there
	refused(t, "a link as a router", netText(someRouters, `{}`, `{"l":{"from":@"l","to":"r","dist":7}}`, `[]`), api.ErrNone, "links l from")
	refused(t, "a label as a link", rowsText(`[{"in":@"a","top":"a","groups":7}]`), api.ErrNone, "table 0 in")
	refused(t, "a link as a label", rowsText(`[{"in":"l0","top":@"l0","groups":7}]`), api.ErrNone, "table 0 top")
}

// P13.2: entries whose links begin elsewhere.
func TestParsePlace(t *testing.T) {
	for _, l := range []string{"l0", "l2", "l4"} {
		refused(t, "out by "+l, groupsText("a", `[[{"out":"l1","ops":[]}],[{"out":"l3","ops":[]},{"ops":7,"out":@"`+l+`"}]]`), api.ErrPlace, "table 0 groups 1 1 out")
	}
	refused(t, "behind l1", rowsText(`[{"in":"l1","top":"a","groups":[[{"out":@"l1","ops":[]}]]}]`), api.ErrPlace, "table 0 groups 0 0 out")
	reads(t, "a loop", netText(`["r"]`, `{"x":"ip"}`, `{"l":{"from":"r","to":"r","dist":1}}`, `[{"in":"l","top":"x","groups":[[{"out":"l","ops":[]}]]}]`), "r: x=1: l=0,0,1: 0-0[(0)]")
}

// P13.2: chains that can't be done, which is told behind all ops.
func TestParseChain(t *testing.T) {
	refused(t, "a pop of an ip", chainOf("a", `[@"pop"]`), api.ErrKind, "table 0 groups 0 0 ops 0")
	refused(t, "a second smpls", chainOf("b", `["push c", @"push d"]`), api.ErrKind, "table 0 groups 0 0 ops 1")
	refused(t, "an mpls onto an ip", chainOf("a", `["swap b","swap a",@"push e"]`), api.ErrKind, "table 0 groups 0 0 ops 2")
	refused(t, "a pop of the last label", chainOf("c", `["pop","push d","push e","pop","pop","swap b",@"pop","pop"]`), api.ErrKind, "table 0 groups 0 0 ops 6")
	refused(t, "the first one of two", chainOf("a", `[@"swap c","swap e"]`), api.ErrKind, "table 0 groups 0 0 ops 0")
	refused(t, "ErrKind behind a later op's", chainOf("a", `["pop",@7]`), api.ErrKind, "table 0 groups 0 0 ops 1")
	refused(t, "ErrForm of a later op", chainOf("a", `["pop",@"no"]`), api.ErrForm, "table 0 groups 0 0 ops 1")
	refused(t, "ErrNone of a later op", chainOf("a", `["pop",@"swap zz"]`), api.ErrNone, "table 0 groups 0 0 ops 1")
	refused(t, "the first entry's ahead of the second's", groupsText("a", `[[{"out":"l1","ops":[@"pop"]},7],7]`), api.ErrKind, "table 0 groups 0 0 ops 0")
	reads(t, "whatever may stand under the top", chainOf("e", `["pop","pop","pop","push c"]`), text(sample(row(0, mid0, group(entry(1, pop, pop, pop, push(bottom0)))))))
}

// P13.2: which of several is told first.
func TestParseFirst(t *testing.T) {
	refused(t, "routers, whatever stands ahead", `{"table":7,"links":7,"labels":7,"routers":@7}`, api.ErrKind, "routers")
	refused(t, "labels", `{"table":7,"links":7,"labels":@7,"routers":[]}`, api.ErrKind, "labels")
	refused(t, "links", `{"table":7,"links":@7,"labels":{},"routers":[]}`, api.ErrKind, "links")
	refused(t, "the table", `{"table":@7,"links":{},"labels":{},"routers":[]}`, api.ErrKind, "table")
	refused(t, "deep in the first", `{"table":7,"links":7,"labels":{"a":@7},"routers":[]}`, api.ErrKind, "labels a")
	refused(t, "from", netText(someRouters, `{}`, `{"l":{"dist":"","to":7,"from":@7}}`, `7`), api.ErrKind, "links l from")
	refused(t, "to", netText(someRouters, `{}`, `{"l":{"dist":"","to":@7,"from":"r"}}`, `7`), api.ErrKind, "links l to")
	refused(t, "dist", netText(someRouters, `{}`, `{"l":{"dist":@"","to":"r","from":"r"},"m":7}`, `7`), api.ErrKind, "links l dist")
	refused(t, "in", rowsText(`[{"groups":7,"top":7,"in":@7},7]`), api.ErrKind, "table 0 in")
	refused(t, "top", rowsText(`[{"groups":7,"top":@7,"in":"l0"},7]`), api.ErrKind, "table 0 top")
	refused(t, "groups", rowsText(`[{"groups":@7,"top":"a","in":"l0"},7]`), api.ErrKind, "table 0 groups")
	refused(t, "out", entryText("a", `{"ops":7,"out":@7},7`), api.ErrKind, "table 0 groups 0 0 out")
	refused(t, "out's place ahead of ops", entryText("a", `{"ops":["pop"],"out":@"l0"},7`), api.ErrPlace, "table 0 groups 0 0 out")
	refused(t, "ops", entryText("a", `{"ops":@7,"out":"l1"},7`), api.ErrKind, "table 0 groups 0 0 ops")
	refused(t, "labels in the text's order", netText(`[]`, `{"z":@7,"a":7}`, `7`, `7`), api.ErrKind, "labels z")
	refused(t, "links in the text's order", netText(`[]`, `{}`, `{"z":@7,"a":7}`, `7`), api.ErrKind, "links z")
	refused(t, "rows in the text's order", rowsText(`[{"in":"l5","top":"a","groups":@7},{"in":"l0","top":"a","groups":7}]`), api.ErrKind, "table 0 groups")
	refused(t, "a router's form ahead of the next one's kind", netText(`[@"-",7]`, `7`, `7`, `7`), api.ErrForm, "routers 0")
	refused(t, "a later row", rowsText(`[{"in":"l5","top":"a","groups":[[{"out":"l4","ops":[]}]]},{"in":"l0","top":"a","groups":[[{"out":"l1","ops":[]}],[{"out":"l1","ops":[]},{"out":"l3","ops":["swap b",@"swap c"]}]]}]`), api.ErrKind, "table 1 groups 1 1 ops 1")
}

// dice makes networks that may be, and their texts.
type dice struct{ *rand.Rand }

// pick: one of a list.
func pick[T any](d dice, l []T) T { return l[d.Intn(len(l))] }

// sign: a sign with blanks about it.
func (d dice) sign(s string) string { return d.blanks() + s + d.blanks() }

func (d dice) blanks() string {
	return pick(d, []string{"", "", " ", "\t", "\n", "\r", " \r\n\t "})
}

// respaced: a text, in which no blank stands within a text but in ops, with
// blanks at its signs.
func (d dice) respaced(s string) string {
	var b strings.Builder
	within := false
	for i := range len(s) {
		if s[i] == '"' {
			within = !within
		}
		if !within && strings.IndexByte("{}[],:", s[i]) >= 0 {
			b.WriteString(d.sign(s[i : i+1]))
		} else {
			b.WriteByte(s[i])
		}
	}
	return b.String()
}

// object: members in any order.
func (d dice) object(members ...string) string {
	d.Shuffle(len(members), func(i, j int) { members[i], members[j] = members[j], members[i] })
	return "{" + strings.Join(members, ",") + "}"
}

// array: values in any order.
func (d dice) array(l ...string) string {
	s := d.object(l...)
	return "[" + s[1:len(s)-1] + "]"
}

// P13.4: blanks, and the order of members, routers and rows, make no difference
// to what is read, which may be.
func TestParseSame(t *testing.T) {
	d := dice{rand.New(rand.NewSource(13))}
	for range 300 {
		n := d.network()
		want := text(n)
		for range 4 {
			s := d.respaced(d.write(n))
			reads(t, s, s, want)
		}
	}
}

// network: one that may be, over sample's topology and labels.
func (d dice) network() net.Net {
	var rows []table.Row
	for in := range 6 {
		for top := range 6 {
			if d.Intn(4) == 0 {
				rows = append(rows, d.row(in, top))
			}
		}
	}
	return sample(rows...)
}

// row: one of a link and a label of sample's.
func (d dice) row(in, top int) table.Row {
	r := row(in, top)
	for range 1 + d.Intn(3) {
		var g []table.Entry
		for range 1 + d.Intn(3) {
			e := entry(1 - in%2 + 2*d.Intn(3))
			kind := top / 2
			for range d.Intn(4) {
				switch {
				case d.Intn(2) == 0:
					e.Ops = append(e.Ops, swap(2*kind+d.Intn(2)))
				default:
					kind = min(kind+1, 2)
					e.Ops = append(e.Ops, push(2*kind+d.Intn(2)))
				}
			}
			if kind == 2 && d.Intn(2) == 0 {
				e.Ops = append(e.Ops, pop)
			}
			g = append(g, e)
		}
		r.Groups = append(r.Groups, g)
	}
	return r
}

// write: a network's text, with members, routers and rows in any order.
func (d dice) write(n net.Net) string {
	var routers, labels, links, rows []string
	for _, r := range n.Topo.Routers {
		routers = append(routers, quoted(r))
	}
	for _, l := range n.Labels {
		labels = append(labels, quoted(l.Name)+":"+quoted([]string{"", "ip", "smpls", "mpls"}[l.Kind]))
	}
	for _, l := range n.Topo.Links {
		links = append(links, quoted(l.Name)+":"+d.object(
			`"from":`+quoted(n.Topo.Routers[l.From]), `"to":`+quoted(n.Topo.Routers[l.To]), `"dist":`+strconv.FormatUint(l.Dist, 10)))
	}
	for _, r := range n.Rows {
		rows = append(rows, d.object(
			`"in":`+quoted(n.Topo.Links[r.In].Name), `"top":`+quoted(n.Labels[r.Top].Name),
			`"groups":`+list(len(r.Groups), func(i int) string { return d.writeGroup(n, r.Groups[i]) })))
	}
	return d.object(`"routers":`+d.array(routers...), `"labels":`+d.object(labels...), `"links":`+d.object(links...), `"table":`+d.array(rows...))
}

// writeGroup: a group's text.
func (d dice) writeGroup(n net.Net, g []table.Entry) string {
	return list(len(g), func(i int) string {
		chain := list(len(g[i].Ops), func(j int) string {
			o := g[i].Ops[j]
			return quoted([]string{"", "pop", "swap " + n.Labels[o.Label].Name, "push " + n.Labels[o.Label].Name}[o.Kind])
		})
		return d.object(`"out":`+quoted(n.Topo.Links[g[i].Out].Name), `"ops":`+chain)
	})
}

// P13.2, P13.4, P4: whatever bytes a text is, it is read as a network that may
// be, or refused, with its place, and no network.
func TestParseAny(t *testing.T) {
	d := dice{rand.New(rand.NewSource(4))}
	signs := []string{"", `"`, "{", "}", "[", "]", ",", ":", "7", "0", "a", "l0", "r", " ", "\\", "null", `""`, "[]", "{}", `"pop"`, `"swap a"`, `"a"`, "\x00", "\xff"}
	read := 0
	for range 200 {
		s := d.write(d.network())
		for range 40 {
			at := d.Intn(len(s))
			marred := s[:at] + pick(d, signs) + s[min(len(s), at+d.Intn(4)):]
			n, err := net.Parse(marred)
			if err == nil {
				read++
				checkNil(t, marred, n.Check())
				continue
			}
			check(t, marred+": the network beside", text(n), text(net.Net{}))
			if at := oops.At(err); at < 0 || at > len(marred) || oops.Code(err) == api.ErrOther {
				t.Errorf("%s: %v", marred, err)
			}
		}
		_, err := net.Parse(s[:d.Intn(len(s))])
		check(t, "a text that ends", oops.Code(err), api.ErrShort)
	}
	check(t, "some are networks", read > 100, true)
}

// DOC.md's rule of memory: no two networks of one text share any.
func TestParseMemory(t *testing.T) {
	s := rowsText(`[{"in":"l0","top":"a","groups":[[{"out":"l1","ops":["swap b"]}]]}]`)
	one, other := parsed(t, "one", s), parsed(t, "the other", s)
	want := text(other)
	one.Topo.Routers[0], one.Topo.Links[0].Dist, one.Labels[0].Kind = "x", 9, header.Mid
	one.Rows[0].Groups[0][0].Ops[0].Label = 9
	one.Rows[0].Groups[0][0].Out = 9
	check(t, "the other", text(other), want)
	check(t, "read again", text(parsed(t, "again", s)), want)
	check(t, "what is read can be stepped", movesText(other.Moves(0, []int{ip0}, bits.Set{})), "1:1:0")
}
