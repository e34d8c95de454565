package solve_test

import (
	"math"
	"strconv"
	"strings"
	"testing"

	"fairlead/api"
	"fairlead/bits"
	"fairlead/build"
	"fairlead/net"
	"fairlead/nfa"
	"fairlead/query"
	"fairlead/sample"
	"fairlead/solve"
	"fairlead/trace"
	"fairlead/weigh"
)

func check[T comparable](t *testing.T, what string, got, want T) {
	t.Helper()
	if got != want {
		t.Errorf("%s: got %v, want %v", what, got, want)
	}
}

// checkNil: is it no error?
func checkNil(t *testing.T, what string, err error) {
	t.Helper()
	if err != nil {
		t.Errorf("%s: %v, want nil", what, err)
	}
}

// none is the text of what is told where there is no path.
const none = "no, 0, failed , by "

// text: all of what was found.
func text(f solve.Found) string {
	s := "no"
	if f.Yes {
		s = "yes"
	}
	if f.Long {
		s += " long"
	}
	s += ", " + strconv.FormatUint(f.Cost, 10) + ", failed " + sample.Numbers(f.Failed.List()) + ", by " + sample.Numbers(f.Trace.Links)
	for _, h := range f.Trace.Headers {
		s += "; " + sample.Numbers(h)
	}
	return s
}

// told: all of what was found, by names.
func told(n net.Net, f solve.Found) string {
	words := []string{"no"}
	if f.Yes {
		words[0] = "yes"
	}
	if f.Long {
		words = append(words, "long")
	}
	words = append(words, strconv.FormatUint(f.Cost, 10))
	for link := range f.Failed.All() {
		words = append(words, n.Topo.Links[link].Name)
	}
	s := strings.Join(words, " ")
	if len(f.Trace.Links) > 100 {
		return s + ", many"
	}
	for i, link := range f.Trace.Links {
		s += ", " + n.Topo.Links[link].Name
		for _, label := range f.Trace.Headers[i] {
			s += " " + n.Labels[label].Name
		}
	}
	return s
}

// exampleText: the network of layer 13's example.
const exampleText = `{
	"routers": ["r", "s"],
	"labels": {"x": "ip", "s": "smpls"},
	"links": {"l0": {"from": "r", "to": "s", "dist": 3}, "l1": {"from": "s", "to": "r", "dist": 5}},
	"table": [{"in": "l0", "top": "x", "groups": [[{"out": "l1", "ops": ["push s"]}]]}]
}`

// all: any options, by what they tell.
func all(most int) map[string]solve.Options {
	m := map[string]solve.Options{}
	for level := -1; level < 4; level++ {
		m["on, level "+strconv.Itoa(level)] = solve.Options{Level: level, Most: most}
		m["back, level "+strconv.Itoa(level)] = solve.Options{Level: level, Most: most, FromEnd: true}
	}
	return m
}

// finds: is just that told, whatever the way and the level?
func finds(t *testing.T, n net.Net, ask string, w weigh.Weight, m build.Mode, most int, want string) {
	t.Helper()
	for what, o := range all(most) {
		f := solve.Find(n, sample.Query(n, ask), w, m, o)
		check(t, ask+", "+what, told(n, f), want)
	}
}

// P30.1: the chapter's example.
func TestExample(t *testing.T) {
	n := sample.Network(exampleText)
	hops := weigh.Weight{Hops: 1}
	finds(t, n, "<$ip> . . <$smpls .> 0", hops, build.Mode{}, 5, "yes 2, l0 x, l1 s x")
	finds(t, n, "<$ip> . . <$smpls .> 0", weigh.Weight{Hops: 1, Dist: 10, Pushes: 100}, build.Mode{}, 2, "yes 182, l0 x, l1 s x")
	finds(t, n, "<$ip> . . <$ip> 0", hops, build.Mode{}, 5, "no 0")
	finds(t, n, "<$ip> . <$ip> 0", hops, build.Mode{Failed: bits.Of(0)}, 5, "yes 1 l0, l1 x")
}

// lineText: from a to d by ways of unlike lengths: over the first one labels are laid
// on, and taken away; some links stand in for others.
const lineText = `{
	"routers": ["a", "b", "c", "d"],
	"labels": {"i": "ip", "j": "ip", "m": "mpls", "o": "mpls", "s": "smpls", "t": "smpls"},
	"links": {
		"in": {"from": "a", "to": "a", "dist": 0},
		"ab": {"from": "a", "to": "b", "dist": 2},
		"ac": {"from": "a", "to": "c", "dist": 90},
		"bc": {"from": "b", "to": "c", "dist": 4},
		"cd": {"from": "c", "to": "d", "dist": 8},
		"bd": {"from": "b", "to": "d", "dist": 60}
	},
	"table": [
		{"in": "in", "top": "i", "groups": [
			[{"out": "ab", "ops": ["push s", "push m"]}],
			[{"out": "ac", "ops": ["swap j"]}]]},
		{"in": "ab", "top": "m", "groups": [
			[{"out": "bc", "ops": ["pop"]}],
			[{"out": "bd", "ops": ["pop", "pop"]}, {"out": "bd", "ops": ["swap o"]}]]},
		{"in": "ac", "top": "j", "groups": [[{"out": "cd", "ops": ["push t"]}]]},
		{"in": "bc", "top": "s", "groups": [[{"out": "cd", "ops": ["pop"]}]]}
	]
}`

// P30.1: the least path by each mode, and which links had to fail.
func TestModes(t *testing.T) {
	n := sample.Network(lineText)
	set := func(s string) bits.Set {
		var links bits.Set
		for _, word := range strings.Fields(s) {
			links = links.With(n.Topo.Link(word))
		}
		return links
	}
	w := weigh.Weight{Dist: 1, Pushes: 1}
	far := bits.Of(64, 127, 6) // links that aren't there
	for _, c := range []struct {
		ask  string
		m    build.Mode
		want string
	}{
		{"<.*> in .* [cd,bd] <.*> 0", build.Mode{}, "yes 16, in i, ab m s i, bc s i, cd i"},
		{"<.*> in .* [cd,bd] <.*> 0", build.Mode{Failed: far}, "yes 16, in i, ab m s i, bc s i, cd i"},
		{"<.*> in .* [cd,bd] <.*> 0", build.Mode{Failed: set("bc")}, "yes 64 bc, in i, ab m s i, bd i"},
		{"<.*> in .* [cd,bd] <. . .*> 0", build.Mode{Failed: set("bc")}, "yes 64 bc, in i, ab m s i, bd o s i"},
		{"<.*> in .* [cd,bd] <.*> 0", build.Mode{Failed: set("bc bd").Or(far)}, "no 0"},
		{"<.*> in .* [cd,bd] <.*> 0", build.Mode{Failed: set("ab").Or(far)}, "yes 99 ab, in i, ac j, cd t j"},
		{"<.*> in .* [cd,bd] <.*> 0", build.Mode{Failed: set("ac bd")}, "yes 16 ac bd, in i, ab m s i, bc s i, cd i"},
		{"<.*> in .* [cd,bd] <.*> 0", build.Mode{Failed: set("in")}, "no 0"},
		{"<.*> in .* [cd,bd] <.*> 0", build.Mode{Kind: -1, Failed: set("ab"), Fails: 7}, "yes 99 ab, in i, ac j, cd t j"},
		{"<.*> in .* [cd,bd] <.*> 0", build.Mode{Kind: 3, Failed: set("ab")}, "yes 99 ab, in i, ac j, cd t j"},
		{"<.*> in .* bd <.*> 0", build.Mode{Kind: build.Over}, "no 0"},
		{"<.*> in .* bd <.*> 0", build.Mode{Kind: build.Over, Fails: -1}, "no 0"},
		{"<.*> in .* bd <.*> 0", build.Mode{Kind: build.Over, Fails: 1}, "yes 64 bc, in i, ab m s i, bd i"},
		{"<.*> in .* bd <.*> 0", build.Mode{Kind: build.Over, Fails: math.MaxInt, Failed: set("bd")}, "yes 64 bc, in i, ab m s i, bd i"},
		{"<.*> in ac .* <.*> 0", build.Mode{Kind: build.Over, Fails: 1}, "yes 90 ab, in i, ac j"},
		{"<.*> in ac .* <.*> 0", build.Mode{Kind: build.Under, Fails: 1}, "yes 90 ab, in i, ac j"},
		{"<.*> in ac .* <.*> 0", build.Mode{Kind: build.Under}, "no 0"},
		{"<.*> in .* [cd,bd] <.*> 0", build.Mode{Kind: build.Under, Fails: 2, Failed: set("in")}, "yes 16, in i, ab m s i, bc s i, cd i"},
	} {
		finds(t, n, c.ask, w, c.m, 9, c.want)
	}
}

// P30.1: a path has a start and an end, which may be one.
func TestEnds(t *testing.T) {
	n := sample.Network(lineText)
	w := weigh.Weight{Hops: 1}
	for ask, want := range map[string]string{
		"<i> ab <i> 0":              "yes 1, ab i",
		"<i> ab <j> 0":              "no 0",
		"<m s i> ab <. . .> 0":      "yes 1, ab m s i",
		"<m i> ab <.*> 0":           "no 0", // no header
		"<.*> () <.*> 0":            "no 0",
		"<()> . <.*> 0":             "no 0",
		"<.*> . <()> 0":             "no 0",
		"<m m s j> . bd <.* j> 0":   "no 0",
		"<i> in ab <.*> 0":          "yes 2, in i, ab m s i",
		"<j> in ab <.*> 0":          "no 0",
		"<m s j> . bc . <.*> 0":     "yes 3, ab m s j, bc s j, cd j",
		"<m .* t .*> . bc . <.*> 0": "no 0",
		"<m o t j> . bc <.*> 0":     "yes 2, ab m o t j, bc o t j",
		"<i> bd in <.*> 0":          "no 0",
	} {
		finds(t, n, ask, w, build.Mode{}, 9, want)
	}
}

// P30.1: Most, of links.
func TestMost(t *testing.T) {
	n := sample.Network(lineText)
	ask, w := "<.*> in .* cd <.*> 0", weigh.Weight{Dist: 1}
	whole := "yes 14, in i, ab m s i, bc s i, cd i"
	for most, want := range map[int]string{
		math.MinInt: "yes long 14",
		-1:          "yes long 14",
		0:           "yes long 14",
		1:           "yes long 14",
		3:           "yes long 14",
		4:           whole,
		5:           whole,
		1 << 20:     whole,
		math.MaxInt: whole,
	} {
		finds(t, n, ask, w, build.Mode{}, most, want)
		finds(t, n, ask, w, build.Mode{Kind: build.Over, Fails: 3}, most, want)
		finds(t, n, ask, w, build.Mode{Kind: build.Under, Fails: 3}, most, want)
		finds(t, n, "<.*> in .* . in <.*> 0", w, build.Mode{}, most, "no 0")
	}
	// what failed isn't told of what is too long
	finds(t, n, "<.*> in .* bd <.*> 0", w, build.Mode{Kind: build.Over, Fails: 1}, 2, "yes long 62")
	finds(t, n, "<.*> in .* bd <.*> 0", w, build.Mode{Failed: bits.Of(n.Topo.Link("bc"))}, 2, "yes long 62")
	finds(t, n, "<.*> in .* bd <.*> 0", w, build.Mode{Failed: bits.Of(n.Topo.Link("bc"))}, 3, "yes 62 bc, in i, ab m s i, bd i")
}

// halves: a network where each mpls but the lowest one, x00, that comes over a link,
// is two of the one below it; x00 is taken away. So paths grow as 2 does.
func halves(labels int) net.Net {
	name := func(i int) string { return "x" + strconv.Itoa(100 + i)[1:] }
	kinds, rows := []string{`"i": "ip"`, `"s": "smpls"`}, []string{}
	for i := range labels {
		chain := `["pop"]`
		if i > 0 {
			chain = `["swap ` + name(i-1) + `", "push ` + name(i-1) + `"]`
		}
		kinds = append(kinds, `"`+name(i)+`": "mpls"`)
		rows = append(rows, `{"in": "l", "top": "`+name(i)+`", "groups": [[{"out": "l", "ops": `+chain+`}]]}`)
	}
	return sample.Network(`{"routers": ["r"], "labels": {` + strings.Join(kinds, ", ") + `}, "links": {"l": {"from": "r", "to": "r", "dist": 1}}, "table": [` + strings.Join(rows, ", ") + `]}`)
}

// P30.1: paths that are very long: of them the Cost is told, up to the greatest amount.
func TestLong(t *testing.T) {
	n := halves(62)
	find := func(top string, w weigh.Weight, o solve.Options) solve.Found {
		return solve.Find(n, sample.Query(n, "<"+top+" s i> .* <s i> 0"), w, build.Mode{}, o)
	}
	hops := weigh.Weight{Hops: 1}
	for what, o := range all(1 << 10) {
		f := find("x09", hops, o)
		check(t, "as long as may be, "+what, f.Yes && !f.Long && f.Cost == 1024 && len(f.Trace.Links) == 1024, true)
		for _, c := range []struct {
			top  string
			w    weigh.Weight
			cost string
		}{
			{"x10", hops, "2048"},
			{"x30", hops, "2147483648"},
			{"x61", hops, "4611686018427387904"},
			{"x61", weigh.Weight{Hops: 2}, "9223372036854775807"},
			{"x61", weigh.Weight{Hops: 1000000, Dist: 1000000, Pushes: 1000000}, "9223372036854775807"},
			{"x61", weigh.Weight{Pushes: 4}, "9223372036854775804"},
		} {
			check(t, c.top+", "+what, told(n, find(c.top, c.w, o)), "yes long "+c.cost)
		}
	}
}

// P30.1: Most is at most 2^20.
func TestMostOfAll(t *testing.T) {
	n := halves(30)
	ask := func(top string) query.Auto { return sample.Query(n, "<"+top+" s i> .* <s i> 0") }
	f := solve.Find(n, ask("x19"), weigh.Weight{Hops: 1}, build.Mode{}, solve.Options{Most: math.MaxInt, FromEnd: true})
	check(t, "2^20 links", f.Yes && !f.Long && len(f.Trace.Links) == 1<<20, true)
	checkNil(t, "2^20 links", trace.Check(n, ask("x19"), bits.Set{}, f.Trace))
	f = solve.Find(n, ask("x19"), weigh.Weight{Hops: 1}, build.Mode{}, solve.Options{Most: 1<<20 - 1, FromEnd: true})
	check(t, "one more than Most", told(n, f), "yes long 1048576")
	one := sample.Query(n, "<x19 s i> .* <x00 s i> 0")
	f = solve.Find(n, one, weigh.Weight{Hops: 1}, build.Mode{}, solve.Options{Most: 1<<20 - 1, FromEnd: true})
	check(t, "just so many", f.Yes && !f.Long && len(f.Trace.Links) == 1<<20-1, true)
	for _, most := range []int{1 << 20, 1<<20 + 1, 1 << 40, math.MaxInt} {
		f = solve.Find(n, ask("x20"), weigh.Weight{Hops: 1}, build.Mode{}, solve.Options{Most: most, FromEnd: true})
		check(t, "2^21 links", told(n, f), "yes long 2097152")
	}
}

// P30.1: chains of as many ops as may be count as one link.
func TestChains(t *testing.T) {
	n := sample.Network(`{
	"routers": ["r"],
	"labels": {"i": "ip", "s": "smpls", "m": "mpls", "o": "mpls", "p": "mpls"},
	"links": {"k": {"from": "r", "to": "r", "dist": 1}, "l": {"from": "r", "to": "r", "dist": 1}, "z": {"from": "r", "to": "r", "dist": 1}},
	"table": [
		{"in": "k", "top": "s", "groups": [[{"out": "l", "ops": ["push m", "push o", "push m", "push p", "push m", "push o", "push m", "push o"]}]]},
		{"in": "l", "top": "o", "groups": [[
			{"out": "k", "ops": ["pop", "pop", "pop", "pop", "pop", "pop", "pop", "pop"]},
			{"out": "z", "ops": ["pop", "pop", "pop", "pop", "swap m", "push o", "push p", "push m"]}]]}
	]}`)
	round := "k s i, l o m o m p m o m s i, "
	ask := "<s i> k l k l k l k <s i> 0"
	want := strings.Repeat(round, 3) + "k s i"
	for most := range 12 {
		told := "yes long 31"
		if most >= 7 {
			told = "yes 31, " + want
		}
		finds(t, n, ask, weigh.Weight{Hops: 1, Pushes: 1}, build.Mode{}, most, told)
	}
	finds(t, n, "<s i> k l k l z <.*> 0", weigh.Weight{Pushes: 1}, build.Mode{}, 5, "yes 19, "+round+round+"z m p o m m o m s i")
}

// Of what isn't promised: all ends without a panic.
func TestUnpromised(t *testing.T) {
	n := sample.Network(lineText)
	q := sample.Query(n, "<.*> .* <.*> 0")
	for _, o := range all(5) {
		check(t, "of nothing", text(solve.Find(net.Net{}, query.Auto{}, weigh.Weight{}, build.Mode{}, o)), none)
		check(t, "of no question", text(solve.Find(n, query.Auto{}, weigh.Weight{}, build.Mode{}, o)), none)
		check(t, "of no network", text(solve.Find(net.Net{}, q, weigh.Weight{}, build.Mode{}, o)), none)
		solve.Find(n, q, weigh.Weight{Hops: math.MaxUint64, Dist: math.MaxUint64, Pushes: math.MaxUint64}, build.Mode{}, o)
		bad := nfa.NFA{On: make([]bits.Set, 1), Next: [][]int{{-1, 5}}, Final: []bool{true}}
		solve.Find(n, query.Auto{Start: bad, Path: q.Path, End: q.End}, weigh.Weight{}, build.Mode{}, o)
		solve.Find(n, query.Auto{Start: q.Start, Path: bad, End: q.End}, weigh.Weight{}, build.Mode{}, o)
		solve.Find(n, query.Auto{Start: q.Start, Path: q.Path, End: bad}, weigh.Weight{}, build.Mode{}, o)
		every := nfa.NFA{On: []bits.Set{{}, bits.Upto(api.MaxSet)}, Next: [][]int{{1}, {1}}, Final: []bool{true, true}}
		solve.Find(n, query.Auto{Start: every, Path: every, End: every}, weigh.Weight{}, build.Mode{}, o)
	}
	n.Rows[0].Groups[0][0].Out = 99
	check(t, "of a network that may not be", text(solve.Find(n, q, weigh.Weight{}, build.Mode{}, solve.Options{})), none)
}
