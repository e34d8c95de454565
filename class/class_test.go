package class_test

import (
	"math/rand"
	"slices"
	"strconv"
	"strings"
	"testing"

	"fairlead/api"
	"fairlead/bits"
	"fairlead/class"
	"fairlead/header"
	"fairlead/net"
	"fairlead/oops"
	"fairlead/regex"
	"fairlead/topo"
)

func check[T comparable](t *testing.T, what string, got, want T) {
	t.Helper()
	if got != want {
		t.Errorf("%s: got %v, want %v", what, got, want)
	}
}

// checkNil: is it no error?
func checkNil(t *testing.T, what string, err error) {
	t.Helper()
	if err != nil {
		t.Errorf("%s: %v, want nil", what, err)
	}
}

// checkFault: is it just a fault at 0, within just these words?
func checkFault(t *testing.T, what string, err error, code api.Errno, words ...string) {
	t.Helper()
	want := oops.New(code, 0)
	for _, word := range slices.Backward(words) {
		want = oops.In(word, want)
	}
	if err == nil || !oops.Same(err, want) || err.Error() != want.Error() {
		t.Errorf("%s: %v, want %v", what, err, want)
	}
}

// sample: the labels a s t x y z are 0 to 5, the links a ab ab2 ba bb ca 0 to 5,
// the routers a b c 0 to 2. No name is one of all three but a.
func sample() net.Net {
	return net.Net{
		Topo: topo.Topo{
			Routers: []string{"a", "b", "c"},
			Links: []topo.Link{
				{Name: "a", From: 0, To: 2}, {Name: "ab", From: 0, To: 1}, {Name: "ab2", From: 0, To: 1},
				{Name: "ba", From: 1, To: 0}, {Name: "bb", From: 1, To: 1}, {Name: "ca", From: 2, To: 0},
			},
		},
		Labels: []net.Label{
			{Name: "a", Kind: header.Mid}, {Name: "s", Kind: header.Bottom}, {Name: "t", Kind: header.Bottom},
			{Name: "x", Kind: header.IP}, {Name: "y", Kind: header.IP}, {Name: "z", Kind: header.IP},
		},
	}
}

// full: a network with as many labels, links and routers as may be.
func full() net.Net {
	var n net.Net
	for i := range api.MaxThings {
		name := "n" + strconv.Itoa(i/10) + strconv.Itoa(i%10)
		n.Topo.Routers = append(n.Topo.Routers, name)
		n.Topo.Links = append(n.Topo.Links, topo.Link{Name: name, From: i / 2, To: i / 3})
		n.Labels = append(n.Labels, net.Label{Name: name, Kind: 1 + i%3})
	}
	return n
}

// labels: does a word mean just these labels?
func labels(t *testing.T, n net.Net, word string, want ...int) {
	t.Helper()
	s, err := class.Label(n, word)
	checkNil(t, word, err)
	check(t, word, s, bits.Of(want...))
}

// links: the same of links.
func links(t *testing.T, n net.Net, word string, want ...int) {
	t.Helper()
	s, err := class.Link(n, word)
	checkNil(t, word, err)
	check(t, word, s, bits.Of(want...))
}

// noLabels: has a word that error, of labels, alone and in an expression?
func noLabels(t *testing.T, n net.Net, word string, code api.Errno) {
	t.Helper()
	s, err := class.Label(n, word)
	checkFault(t, "the labels of "+strconv.Quote(word), err, code, word)
	check(t, "beside an error", s, bits.Set{})
	if code != api.ErrForm {
		x, err := class.Labels(n, regex.Expr{Kind: regex.Atom, Words: []string{word}})
		checkFault(t, "the node of "+word, err, code, word)
		check(t, "beside an error", whole(x), "0[]")
	}
}

// noLinks: the same of links.
func noLinks(t *testing.T, n net.Net, word string, code api.Errno) {
	t.Helper()
	s, err := class.Link(n, word)
	checkFault(t, "the links of "+strconv.Quote(word), err, code, word)
	check(t, "beside an error", s, bits.Set{})
	if code != api.ErrForm {
		x, err := class.Links(n, regex.Expr{Kind: regex.Atom, Words: []string{word}})
		checkFault(t, "the node of "+word, err, code, word)
		check(t, "beside an error", whole(x), "0[]")
	}
}

// whole: all that a node is.
func whole(x class.Node) string {
	var words []string
	for i := range x.On.All() {
		words = append(words, strconv.Itoa(i))
	}
	s := strconv.Itoa(x.Kind) + "[" + strings.Join(words, " ") + "]"
	for _, kid := range x.Kids {
		s += "{" + whole(kid) + "}"
	}
	return s
}

// parsed: the expression of a text.
func parsed(t *testing.T, s string) regex.Expr {
	t.Helper()
	x, err := regex.Parse(s)
	checkNil(t, s, err)
	return x
}

// The form of the type, and the sample may be.
func TestForm(t *testing.T) {
	check(t, "a node", whole(class.Node{1, bits.Of(2), []class.Node{{}}}), "1[2]{0[]}")
	checkNil(t, "the sample", sample().Check())
	checkNil(t, "the full network", full().Check())
	checkNil(t, "the zero network", net.Net{}.Check())
}

// P16.1: the labels of a word.
func TestLabel(t *testing.T) {
	n := sample()
	for i, name := range []string{"a", "s", "t", "x", "y", "z"} {
		labels(t, n, name, i)
	}
	labels(t, n, "$ip", 3, 4, 5)
	labels(t, n, "$smpls", 1, 2)
	labels(t, n, "$mpls", 0)
	n.Labels = n.Labels[1:5]
	labels(t, n, "$mpls")
	labels(t, n, "$smpls", 0, 1)
	labels(t, net.Net{}, "$ip")
	labels(t, net.Net{}, "$smpls")
	labels(t, full(), "n00", 0)
	labels(t, full(), "n63", 63)
	s, err := class.Label(full(), "$ip")
	check(t, "of many", err == nil && s.Len() == 22 && s.Has(0) && s.Has(63), true)
}

// P16.1: the example.
func TestExample(t *testing.T) {
	n := net.Net{Labels: []net.Label{{Name: "s", Kind: header.Bottom}, {Name: "x", Kind: header.IP}}}
	labels(t, n, "$ip", 1)
	labels(t, n, "$smpls", 0)
	labels(t, n, "$mpls")
}

// P16.1: the links of a word.
func TestLink(t *testing.T) {
	n := sample()
	for i, name := range []string{"a", "ab", "ab2", "ba", "bb", "ca"} {
		links(t, n, name, i)
	}
	links(t, n, "a#b", 1, 2)
	links(t, n, "b#a", 3)
	links(t, n, "b#b", 4)
	links(t, n, "a#c", 0)
	links(t, n, "c#a", 5)
	links(t, n, "a#a")
	links(t, n, "b#c")
	links(t, n, "c#b")
	links(t, full(), "n63", 63)
	links(t, full(), "n31#n20", 62)
	links(t, full(), "n31#n21", 63)
}

// badWords are no words.
func badWords() []string {
	long := strings.Repeat("n", api.MaxName+1)
	return []string{"", " ", "a ", " a", "1", "$", "$$ip", "$1", "ip$", "#", "a#", "#a", "a##b", "a#b#c", "$ip#a", "a#$ip", "$#", "a,b", "a\x00", "é", long, "$" + long, "a#" + long, long + "#a"}
}

// P16.1: words that are none, are of another kind, or of nothing that is there.
func TestWordErrors(t *testing.T) {
	n := sample()
	for _, word := range badWords() {
		noLabels(t, n, word, api.ErrForm)
		noLinks(t, n, word, api.ErrForm)
	}
	for _, word := range []string{"a#b", "a#a", "q#a", "a#q", "q#r", "s#x", "ip#ip", "a.#b-"} {
		noLabels(t, n, word, api.ErrKind)
	}
	for _, word := range []string{"$ip", "$smpls", "$mpls", "$x", "$a", "$ab", "$q"} {
		noLinks(t, n, word, api.ErrKind)
	}
	for _, word := range []string{"q", "b", "c", "ab", "ip", "smpls", "A", "aa", "x.", "$q", "$a", "$x", "$IP", "$Ip", "$ip.", "$i", "$mplss", "$smpl", "$_"} {
		noLabels(t, n, word, api.ErrNone)
	}
	for _, word := range []string{"q", "b", "c", "s", "x", "aB", "ab3", "q#a", "a#q", "q#q", "ab#b", "a#ab", "A#b", "a#s", "a#b.", "ip"} {
		noLinks(t, n, word, api.ErrNone)
	}
	for _, word := range []string{"a", "$x"} {
		noLabels(t, net.Net{}, word, api.ErrNone)
	}
	for _, word := range []string{"a", "a#a"} {
		noLinks(t, net.Net{}, word, api.ErrNone)
	}
}

// P16.2: the nodes of expressions of each kind.
func TestNodes(t *testing.T) {
	n := sample()
	for _, c := range [][3]string{
		{".", "1[0 1 2 3 4 5]", "1[0 1 2 3 4 5]"},
		{"a", "1[0]", "1[0]"},
		{"[^a]", "1[1 2 3 4 5]", "1[1 2 3 4 5]"},
		{"()", "2[]", "2[]"},
		{"a .", "2[]{1[0]}{1[0 1 2 3 4 5]}", "2[]{1[0]}{1[0 1 2 3 4 5]}"},
		{"a|[^a]|()", "3[]{1[0]}{1[1 2 3 4 5]}{2[]}", "3[]{1[0]}{1[1 2 3 4 5]}{2[]}"},
		{"a*", "4[]{1[0]}", "4[]{1[0]}"},
		{"a+", "5[]{1[0]}", "5[]{1[0]}"},
		{".?", "6[]{1[0 1 2 3 4 5]}", "6[]{1[0 1 2 3 4 5]}"},
		{"(a|()*)+ .", "2[]{5[]{3[]{1[0]}{4[]{2[]}}}}{1[0 1 2 3 4 5]}", "2[]{5[]{3[]{1[0]}{4[]{2[]}}}}{1[0 1 2 3 4 5]}"},
	} {
		x, err := class.Labels(n, parsed(t, c[0]))
		checkNil(t, c[0], err)
		check(t, "labels of "+c[0], whole(x), c[1])
		x, err = class.Links(n, parsed(t, c[0]))
		checkNil(t, c[0], err)
		check(t, "links of "+c[0], whole(x), c[2])
	}
}

// P16.2: an Atom is of all that its words mean together, or of all others.
func TestNodeSets(t *testing.T) {
	n := sample()
	n.Topo.Links = n.Topo.Links[:5]
	for s, want := range map[string]string{
		"[$ip,s]": "1[1 3 4 5]", "[^$ip,s]": "1[0 2]", "[x,$ip]": "1[3 4 5]", "[$ip,$smpls,$mpls]": "1[0 1 2 3 4 5]",
		"[^$ip,$smpls,$mpls]": "1[]", "[^t]": "1[0 1 3 4 5]", ".": "1[0 1 2 3 4 5]",
	} {
		x, err := class.Labels(n, parsed(t, s))
		checkNil(t, s, err)
		check(t, "labels of "+s, whole(x), want)
	}
	for s, want := range map[string]string{
		"[a#b,ba]": "1[1 2 3]", "[^a#b,ba]": "1[0 4]", "c#b": "1[]", "[^c#b]": "1[0 1 2 3 4]", "[^a#b,b#a,a#c,b#b]": "1[]", ".": "1[0 1 2 3 4]",
	} {
		x, err := class.Links(n, parsed(t, s))
		checkNil(t, s, err)
		check(t, "links of "+s, whole(x), want)
	}
	x, err := class.Links(net.Net{}, parsed(t, ". ()"))
	checkNil(t, "of the zero network", err)
	check(t, "of the zero network", whole(x), "2[]{1[]}{2[]}")
	x, err = class.Labels(full(), parsed(t, "[^n00,n62]"))
	checkNil(t, "of many", err)
	check(t, "of many", x.On, bits.Upto(api.MaxThings).Less(bits.Of(0, 62)))
}

// P16.2: the first word, from the front, that has an error.
func TestNodeWordErrors(t *testing.T) {
	n := sample()
	for _, c := range [][3]string{
		{"q r", "q", "q"}, {"a r", "r", "r"}, {"(a|a* .) [q,r] b#q", "q", "q"}, {"[a,q]", "q", "q"}, {"[^a,q,r]", "q", "q"},
		{"(a (q)*) r", "q", "q"}, {". () (a|(a|q)) q#a", "q", "q"}, {"q#a $r", "q#a", "q#a"}, {"$ip+ a#b q", "a#b", "$ip"}, {"[z,$q,r#q]", "$q", "$q"},
	} {
		x, err := class.Labels(n, parsed(t, c[0]))
		check(t, "labels of "+c[0], strings.Join(oops.Words(err), " "), c[1])
		check(t, "its place", oops.At(err), 0)
		check(t, "beside an error", whole(x), "0[]")
		x, err = class.Links(n, parsed(t, c[0]))
		check(t, "links of "+c[0], strings.Join(oops.Words(err), " "), c[2])
		check(t, "its place", oops.At(err), 0)
		check(t, "beside an error", whole(x), "0[]")
	}
}

// P16.2: layer 15's errors, ahead of those of words.
func TestNodeCheckErrors(t *testing.T) {
	n := sample()
	q := regex.Expr{Kind: regex.Atom, Words: []string{"q"}}
	for code, x := range map[api.Errno]regex.Expr{
		api.ErrArg:   {Kind: 7},
		api.ErrForm:  {Kind: regex.Alt},
		api.ErrOrder: {Kind: regex.Atom, Words: []string{"b", "a"}},
		api.ErrMany:  {Kind: regex.Cat, Kids: slices.Repeat([]regex.Expr{{}}, api.MaxNodes)},
	} {
		for _, y := range []regex.Expr{x, {Kind: regex.Cat, Kids: []regex.Expr{q, x}}, {Kind: regex.Cat, Kids: []regex.Expr{x, q}}} {
			node, err := class.Labels(n, y)
			checkFault(t, "labels", err, code)
			check(t, "beside an error", whole(node), "0[]")
			node, err = class.Links(n, y)
			checkFault(t, "links", err, code)
			check(t, "beside an error", whole(node), "0[]")
		}
	}
	bad := regex.Expr{Kind: regex.Atom, Words: []string{"1"}}
	_, err := class.Labels(n, bad)
	checkFault(t, "a word that is none", err, api.ErrForm)
}

// P16.2: how many nodes there are.
func TestSize(t *testing.T) {
	check(t, "the zero node", class.Size(class.Node{}), 1)
	for _, s := range []string{".", "a", "()", "a a", "a|.|[^a]", "a*+?", "(a|()*)+ .", strings.Repeat(".|", 98) + "."} {
		x := parsed(t, s)
		node, err := class.Links(sample(), x)
		checkNil(t, s, err)
		check(t, s, class.Size(node), regex.Size(x))
	}
	many := class.Node{Kind: 99, Kids: slices.Repeat([]class.Node{{Kids: make([]class.Node, 3)}}, 1000)}
	check(t, "of many", class.Size(many), 4001)
}

// P16.3: an Atom and the same with Not.
func TestNot(t *testing.T) {
	r := rand.New(rand.NewSource(16))
	n := sample()
	of := map[string]func(net.Net, regex.Expr) (class.Node, error){"labels": class.Labels, "links": class.Links}
	words := map[string][]string{"labels": {"$ip", "$mpls", "$smpls", "a", "s", "t", "x", "z"}, "links": {"a", "a#a", "a#b", "ab", "b#a", "b#b", "bb", "c#b"}}
	for what, make := range of {
		for range 200 {
			some := slices.DeleteFunc(slices.Clone(words[what]), func(string) bool { return r.Intn(2) == 0 })
			if len(some) == 0 {
				continue
			}
			x, err := make(n, regex.Expr{Kind: regex.Atom, Words: some})
			checkNil(t, what, err)
			y, err := make(n, regex.Expr{Kind: regex.Atom, Not: true, Words: some})
			checkNil(t, what, err)
			check(t, what+": of both", x.On.And(y.On), bits.Set{})
			check(t, what+": of either", x.On.Or(y.On), bits.Upto(6))
		}
	}
}

// Memory: nothing that is handed in is changed or kept.
func TestMemory(t *testing.T) {
	n := sample()
	x := parsed(t, "a (a|[^a])*")
	node, err := class.Links(n, x)
	checkNil(t, "links", err)
	again, err := class.Links(n, x)
	checkNil(t, "links", err)
	s, err := regex.Print(x)
	check(t, "the expression", s, "a (a|[^a])*")
	checkNil(t, "the expression", err)
	x.Kids[0].Words[0] = "b"
	n.Topo.Links[0].Name = "A"
	node.Kids[1].Kids[0].Kids[0].On = bits.Of(9)
	_ = append(node.Kids[:1], class.Node{Kind: 9})
	check(t, "the other node", whole(again), "2[]{1[0]}{4[]{3[]{1[0]}{1[1 2 3 4 5]}}}")
}
