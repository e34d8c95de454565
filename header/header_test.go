package header_test

import (
	"math"
	"regexp"
	"slices"
	"strconv"
	"strings"
	"testing"

	"fairlead/bits"
	"fairlead/header"
)

func check[T comparable](t *testing.T, what string, got, want T) {
	t.Helper()
	if got != want {
		t.Errorf("%s: got %v, want %v", what, got, want)
	}
}

func digits(l ...int) string {
	var words []string
	for _, i := range l {
		words = append(words, strconv.Itoa(i))
	}
	return strings.Join(words, " ")
}

// three is the list of the chapter's example; 0 is an ip, 1 an smpls, 2 an mpls.
func three() []int { return []int{1, 2, 3} }

// two has each kind twice, and numbers that are no kind between them.
func two() []int { return []int{3, 0, 1, 2, 4, 2, 1, 3, -1} }

// noKinds are numbers that are no kind, the ends of ints among them, and some
// that would be one if they went round.
func noKinds() []int {
	l := []int{0, -1, -2, -3, 4, 5, 6, 7, 63, 64, 127, 128, math.MinInt8, math.MinInt32, math.MinInt, math.MinInt + 1, math.MaxInt32, math.MaxInt}
	return append(l, 1<<8+1, 1<<16+2, 1<<32+1, 1<<32+2, 1<<32+3, 1<<62+3, -1<<32+1, math.MinInt+3)
}

// shape is how the kinds' numbers of a header stand that may be, by the
// chapter's words: any mpls, an smpls, if there is anything above the ip, the ip.
var shape = regexp.MustCompile(`^(3*2)?1$`)

// may: may a header be, by the shape?
func may(kinds, h []int) bool {
	var s strings.Builder
	for _, label := range h {
		kind := 0
		if label >= 0 && label < len(kinds) && kinds[label] >= 1 && kinds[label] <= 3 {
			kind = kinds[label]
		}
		s.WriteString(strconv.Itoa(kind))
	}
	return shape.MatchString(s.String())
}

// rows: all rows of so many of some labels.
func rows(labels []int, n int) [][]int {
	if n == 0 {
		return [][]int{nil}
	}
	var l [][]int
	for _, rest := range rows(labels, n-1) {
		for _, label := range labels {
			l = append(l, append(slices.Clone(rest), label))
		}
	}
	return l
}

// headers: some rows of labels, of which many may be headers, and many not.
func headers() [][]int {
	var l [][]int
	for n := range 8 {
		l = append(l, rows([]int{0, 1, 2}, n)...)
	}
	for n := range 6 {
		l = append(l, rows([]int{0, 1, 2, 3, -1}, n)...)
	}
	return l
}

// The kinds' numbers.
func TestKinds(t *testing.T) {
	check(t, "IP", header.IP, 1)
	check(t, "Bottom", header.Bottom, 2)
	check(t, "Mid", header.Mid, 3)
}

// P9.1: the kind of each label of a list.
func TestKind(t *testing.T) {
	for i, want := range three() {
		check(t, "kind of "+digits(i), header.Kind(three(), i), want)
	}
	for i, want := range []int{3, 0, 1, 2, 0, 2, 1, 3, 0} {
		check(t, "of two, kind of "+digits(i), header.Kind(two(), i), want)
	}
	check(t, "of one", header.Kind([]int{2}, 0), 2)
	many := slices.Repeat(three(), 100)
	check(t, "of many, the last", header.Kind(many, 299), 3)
	check(t, "of many, one more", header.Kind(many, 300), 0)
}

// P9.1: a label that isn't a place of the list has no kind.
func TestKindOfNoPlace(t *testing.T) {
	for _, label := range []int{-1, -2, -3, 3, 4, 64, math.MinInt, math.MinInt + 1, math.MaxInt, 1 << 32, 1<<32 + 1, -1 << 32} {
		check(t, "kind of "+digits(label), header.Kind(three(), label), 0)
	}
	for _, label := range []int{-1, 0, 1, math.MinInt, math.MaxInt} {
		check(t, "of nil, kind of "+digits(label), header.Kind(nil, label), 0)
		check(t, "of none, kind of "+digits(label), header.Kind([]int{}, label), 0)
		check(t, "of spare room, kind of "+digits(label), header.Kind(three()[:0], label), 0)
	}
	check(t, "in the spare room", header.Kind(three()[:2], 2), 0)
}

// P9.1: a label whose number is none of the three has no kind.
func TestKindOfNoKind(t *testing.T) {
	for _, number := range noKinds() {
		kinds := []int{1, number, 3}
		check(t, "kind by "+digits(number), header.Kind(kinds, 1), 0)
		check(t, "the one ahead", header.Kind(kinds, 0), 1)
		check(t, "the one behind", header.Kind(kinds, 2), 3)
	}
}

// P9.1: the words of the kinds, and the kinds of the words.
func TestWordOf(t *testing.T) {
	for kind, word := range map[int]string{1: "ip", 2: "smpls", 3: "mpls"} {
		check(t, "word of "+digits(kind), header.Word(kind), word)
		check(t, "kind of "+word, header.Of(word), kind)
	}
	for _, number := range noKinds() {
		check(t, "word of "+digits(number), header.Word(number), "")
	}
}

// P9.1: other words are of no kind.
func TestOfOtherWords(t *testing.T) {
	l := []string{"", " ", "IP", "Ip", "iP", "SMPLS", "Smpls", "sMPLS", "MPLS", "Mpls", "mplS", "ip ", " ip", "ip\n", "ip\x00", "i", "p", "ipp", "smpl", "pls", "mpl", "mplss", "smplsmpls", "ip mpls", "ipv4"}
	l = append(l, "1", "2", "3", "0", "Bottom", "Mid", "bottom", "mid", "ı\u0307p", "ip\xff", strings.Repeat("ip", 70000))
	for _, word := range l {
		check(t, "kind of "+strconv.Quote(word[:min(len(word), 20)]), header.Of(word), 0)
	}
}

// P9.1: what may stand under one of each kind.
func TestBelow(t *testing.T) {
	check(t, "under ip", header.Below(1), bits.Of())
	check(t, "under smpls", header.Below(2), bits.Of(1))
	check(t, "under mpls", header.Below(3), bits.Of(2, 3))
	for _, number := range noKinds() {
		check(t, "under "+digits(number), header.Below(number), bits.Set{})
	}
}

// P9.1: what one of each kind may be laid onto.
func TestOnto(t *testing.T) {
	check(t, "ip onto", header.Onto(1), bits.Of())
	check(t, "smpls onto", header.Onto(2), bits.Of(1))
	check(t, "mpls onto", header.Onto(3), bits.Of(2, 3))
	for _, number := range noKinds() {
		check(t, digits(number)+" onto", header.Onto(number), bits.Set{})
	}
}

// P9.2: headers that may be.
func TestValid(t *testing.T) {
	for _, h := range [][]int{{0}, {1, 0}, {2, 1, 0}, {2, 2, 1, 0}, {2, 2, 2, 2, 2, 2, 2, 2, 2, 2, 1, 0}} {
		check(t, digits(h...), header.Valid(three(), h), true)
	}
	for _, h := range [][]int{{2}, {6}, {3, 2}, {5, 2}, {5, 6}, {0, 3, 6}, {7, 0, 0, 7, 5, 2}} {
		check(t, "of two: "+digits(h...), header.Valid(two(), h), true)
	}
	high := append(slices.Repeat([]int{2}, 100000), 1, 0)
	check(t, "a high one", header.Valid(three(), high), true)
	check(t, "its middle", header.Valid(three(), high[50000:]), true)
	check(t, "without its ip", header.Valid(three(), high[:100001]), false)
}

// P9.2: headers that may not be, each for one thing that is wrong.
func TestNotValid(t *testing.T) {
	wrong := map[string][]int{
		"no labels":                nil,
		"an empty list":            {},
		"no ip below an smpls":     {1},
		"no ip below an mpls":      {2},
		"no ip, many":              {2, 2, 1},
		"mpls right above ip":      {2, 0},
		"two mpls right above ip":  {2, 2, 0},
		"two smpls":                {1, 1, 0},
		"two smpls below an mpls":  {2, 1, 1, 0},
		"an mpls below an smpls":   {1, 2, 0},
		"an mpls between":          {1, 2, 1, 0},
		"an smpls on top, and one": {2, 1, 2, 1, 0},
		"two ips":                  {0, 0},
		"an ip ahead":              {0, 1, 0},
		"an ip, and an mpls":       {0, 2, 1, 0},
		"an ip within":             {2, 0, 1, 0},
		"an ip not last":           {1, 0, 0},
		"an ip first alone":        {0, 1},
		"turned about":             {0, 1, 2},
		"no such label at last":    {1, 3},
		"no such label alone":      {3},
		"a label below 0 alone":    {-1},
		"a label below 0":          {-1, 1, 0},
		"no such label on top":     {3, 1, 0},
		"no such label within":     {2, 3, 1, 0},
		"no such label above ip":   {3, 0},
		"at the ends of numbers":   {math.MaxInt, math.MinInt},
	}
	for what, h := range wrong {
		check(t, what, header.Valid(three(), h), false)
	}
	for _, number := range noKinds() {
		for at := range 3 {
			kinds := three()
			kinds[at] = number
			check(t, digits(number)+" at "+digits(at), header.Valid(kinds, []int{2, 1, 0}), false)
			check(t, digits(number)+" alone", header.Valid([]int{number}, []int{0}), false)
		}
	}
}

// P9.2: of no kinds no header may be.
func TestValidOfNoKinds(t *testing.T) {
	for _, kinds := range [][]int{nil, {}, three()[:0], {0}, {0, 0, 0}} {
		for _, h := range [][]int{nil, {}, {0}, {1, 0}, {2, 1, 0}, {-1}} {
			check(t, "kinds "+digits(kinds...)+", header "+digits(h...), header.Valid(kinds, h), false)
		}
	}
	check(t, "kinds without an ip", header.Valid([]int{2, 3}, []int{1, 0}), false)
	check(t, "an ip alone of a list of one", header.Valid([]int{1}, []int{0}), true)
}

// P9.2: each row of up to 7 labels, by the shape.
func TestValidByShape(t *testing.T) {
	n := 0
	for _, h := range headers() {
		want := may(three(), h)
		check(t, digits(h...), header.Valid(three(), h), want)
		if want {
			n++
		}
	}
	check(t, "how many may be", n, 7+5)
	for _, h := range rows([]int{0, 1, 2, 3, 4, 5, 6, 7}, 4) {
		check(t, "of two: "+digits(h...), header.Valid(two(), h), may(two(), h))
	}
}

// P9.3: each end of a header that may be may be.
func TestEndsMayBe(t *testing.T) {
	for _, h := range headers() {
		if !header.Valid(three(), h) {
			continue
		}
		for i := range h {
			check(t, digits(h...)+" from "+digits(i), header.Valid(three(), h[i:]), true)
			check(t, digits(h...)+" up to "+digits(i), header.Valid(three(), h[:i]), false)
		}
	}
}

// P9.3: with a label on its top a header may be, just where Onto has the top.
func TestLaidOnTop(t *testing.T) {
	laid := 0
	for _, h := range headers() {
		if !header.Valid(three(), h) {
			continue
		}
		for label := -1; label <= 4; label++ {
			onto := header.Onto(header.Kind(three(), label))
			want := onto.Has(header.Kind(three(), h[0]))
			more := append([]int{label}, h...)
			check(t, digits(more...), header.Valid(three(), more), want)
			if want {
				laid++
			}
		}
	}
	check(t, "laid on some", laid, 12)
}

// The rule of memory: what is handed in stays, spare room included.
func TestArgumentsStay(t *testing.T) {
	kinds, h := []int{1, 2, 3, 9, 8}, []int{2, 1, 0, 7, 6}
	header.Kind(kinds[:3], 1)
	header.Kind(kinds[:3], 3)
	header.Valid(kinds[:3], h[:3])
	header.Valid(kinds[:3], h[:2])
	check(t, "kinds", digits(kinds...), "1 2 3 9 8")
	check(t, "header", digits(h...), "2 1 0 7 6")
	check(t, "by what is there now", header.Valid(kinds[:3], h[:3]), true)
	h[1] = 2
	check(t, "by what is there then", header.Valid(kinds[:3], h[:3]), false)
	kinds[2], kinds[1], h[1] = 2, 1, 1
	check(t, "by the kinds then", header.Valid(kinds[:3], h[:2]), true)
}
