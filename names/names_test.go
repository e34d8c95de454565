package names_test

import (
	"math"
	"slices"
	"strconv"
	"strings"
	"testing"

	"fairlead/api"
	"fairlead/names"
	"fairlead/oops"
)

func check[T comparable](t *testing.T, what string, got, want T) {
	t.Helper()
	if got != want {
		t.Errorf("%s: got %v, want %v", what, got, want)
	}
}

// checkFault: is it just a fault of both, within no words?
func checkFault(t *testing.T, what string, err error, code api.Errno, at int) {
	t.Helper()
	f, ok := err.(*oops.Fault)
	if !ok || f == nil {
		t.Errorf("%s: %v is no fault, want %d at %d", what, err, code, at)
		return
	}
	check(t, what, *f, oops.Fault{Code: code, At: at})
}

// row: of names that may be.
func row(t *testing.T, l ...string) names.Names {
	t.Helper()
	n, err := names.Of(l...)
	if err != nil {
		t.Fatalf("Of(%q): %v", l, err)
	}
	return n
}

// checkRow: has it just these, in this order, by all that can be asked?
func checkRow(t *testing.T, what string, n names.Names, want ...string) {
	t.Helper()
	if got := n.All(); !slices.Equal(got, want) {
		t.Errorf("%s: all %q, want %q", what, got, want)
	}
	check(t, what+": len", n.Len(), len(want))
	for i, s := range want {
		check(t, what+": name", n.Name(i), s)
		at, ok := n.Find(s)
		check(t, what+": place of "+s, at, i)
		check(t, what+": there is "+s, ok, true)
	}
	for _, i := range []int{-1, len(want), len(want) + 1, 63, 64, math.MinInt, math.MaxInt} {
		if i < 0 || i >= len(want) {
			check(t, what+": no name "+strconv.Itoa(i), n.Name(i), "")
		}
	}
}

// many: so many names, rising.
func many(n int) []string {
	var l []string
	for i := range n {
		l = append(l, "n"+strconv.Itoa(100+i))
	}
	return l
}

// P4.1: in whatever order they come, the row rises byte by byte.
func TestOf(t *testing.T) {
	checkRow(t, "none", row(t))
	checkRow(t, "one", row(t, "a"), "a")
	checkRow(t, "b, a", row(t, "b", "a"), "a", "b")
	checkRow(t, "a, b", row(t, "a", "b"), "a", "b")
	checkRow(t, "byte by byte", row(t, "b", "a", "_", "Z", "a1", "a-", "a.", "aA", "r10", "r9", "ab"),
		"Z", "_", "a", "a-", "a.", "a1", "aA", "ab", "b", "r10", "r9")
	long := strings.Repeat("a", 32)
	checkRow(t, "of 32 bytes", row(t, long, "b"), long, "b")
}

// P4.1: as many as may be.
func TestOfMost(t *testing.T) {
	l := many(64)
	checkRow(t, "rising", row(t, l...), l...)
	falling := slices.Clone(l)
	slices.Reverse(falling)
	checkRow(t, "falling", row(t, falling...), l...)
}

// P4.1: each error, and which is told, where several apply.
func TestOfErrors(t *testing.T) {
	long := strings.Repeat("a", 33)
	rows := []struct {
		l    []string
		code api.Errno
		at   int
	}{
		{[]string{""}, api.ErrForm, 0},
		{[]string{"a", ""}, api.ErrForm, 1},
		{[]string{"a", "1"}, api.ErrForm, 1},
		{[]string{"a", "b", "c d"}, api.ErrForm, 2},
		{[]string{"b", long, "a"}, api.ErrForm, 1},
		{[]string{"-", "-"}, api.ErrForm, 0},
		{[]string{"a", "a"}, api.ErrTwice, 1},
		{[]string{"b", "a", "c", "b", "a"}, api.ErrTwice, 3},
		{[]string{"a", "a", "1"}, api.ErrTwice, 1},
		{[]string{"a", "1", "a"}, api.ErrForm, 1},
		{append(many(63), "n100"), api.ErrTwice, 63},
		{append(many(63), "?"), api.ErrForm, 63},
		{many(65), api.ErrMany, 64},
		{many(1000), api.ErrMany, 64},
		{append([]string{"?", "a", "a"}, many(62)...), api.ErrMany, 64},
		{append(many(64), "n100"), api.ErrMany, 64},
		{make([]string, 65), api.ErrMany, 64},
		{make([]string, 64), api.ErrForm, 0},
	}
	for _, r := range rows {
		n, err := names.Of(r.l...)
		what := "Of " + strings.Join(r.l[:min(len(r.l), 5)], ",")
		checkFault(t, what, err, r.code, r.at)
		checkRow(t, what+": beside the error", n)
	}
}

// P4.1: one name more, wherever it belongs; the row itself stays.
func TestWith(t *testing.T) {
	b := row(t, "b", "d")
	rows := []struct {
		more string
		want []string
	}{
		{"a", []string{"a", "b", "d"}},
		{"c", []string{"b", "c", "d"}},
		{"e", []string{"b", "d", "e"}},
		{"B", []string{"B", "b", "d"}},
		{"b-", []string{"b", "b-", "d"}},
	}
	for _, r := range rows {
		n, err := b.With(r.more)
		if err != nil {
			t.Errorf("With(%s): %v", r.more, err)
		}
		checkRow(t, "with "+r.more, n, r.want...)
		checkRow(t, "without "+r.more, b, "b", "d")
	}
}

// P4.1: rows made of one row by With don't meddle with one another.
func TestWithOfOneRow(t *testing.T) {
	n := row(t)
	for _, s := range many(20) {
		more, err := n.With(s)
		if err != nil {
			t.Fatal(err)
		}
		x, _ := n.With("x")
		a, _ := n.With("a")
		all := n.All()
		checkRow(t, "x", x, append(slices.Clone(all), "x")...)
		checkRow(t, "a", a, append([]string{"a"}, all...)...)
		checkRow(t, "more", more, append(slices.Clone(all), s)...)
		n = more
	}
	checkRow(t, "at last", n, many(20)...)
}

// P4.1: With's errors, in their order, all at Len.
func TestWithErrors(t *testing.T) {
	rows := []struct {
		l    []string
		more string
		code api.Errno
	}{
		{nil, "", api.ErrForm},
		{nil, "1", api.ErrForm},
		{[]string{"a", "b"}, "a b", api.ErrForm},
		{[]string{"a"}, strings.Repeat("a", 33), api.ErrForm},
		{[]string{"a", "b"}, "a", api.ErrTwice},
		{[]string{"a", "b"}, "b", api.ErrTwice},
		{many(63), "n100", api.ErrTwice},
		{many(64), "n163", api.ErrTwice},
		{many(64), "a", api.ErrMany},
		{many(64), "z", api.ErrMany},
		{many(64), "?", api.ErrForm},
	}
	for _, r := range rows {
		of := row(t, r.l...)
		n, err := of.With(r.more)
		checkFault(t, "With "+r.more, err, r.code, len(r.l))
		checkRow(t, "beside the error", n)
		checkRow(t, "as it was", of, r.l...)
	}
	full, err := row(t, many(63)...).With("z")
	if err != nil {
		t.Errorf("the 64th: %v", err)
	}
	checkRow(t, "the 64th", full, append(many(63), "z")...)
}

// P4.2: what isn't there isn't found.
func TestFindOfNone(t *testing.T) {
	for _, n := range []names.Names{{}, row(t), row(t, "b"), row(t, "b", "d", "f"), row(t, many(64)...)} {
		for _, s := range []string{"", "a", "c", "g", "B", "bb", " b", "b ", "n", "n1000", "zz", "?", strings.Repeat("b", 70000)} {
			at, ok := n.Find(s)
			check(t, "place of none", at, 0)
			check(t, "Find "+s[:min(len(s), 5)], ok, false)
		}
	}
}

// P4.2: the zero row has none, and takes one more.
func TestZeroRow(t *testing.T) {
	var n names.Names
	checkRow(t, "zero", n)
	more, err := n.With("a")
	if err != nil {
		t.Errorf("With of the zero row: %v", err)
	}
	checkRow(t, "one more", more, "a")
	_, err = n.With("")
	checkFault(t, "no name", err, api.ErrForm, 0)
}

// P4.2, and the rule of memory: lists in and out are their owners'.
func TestListsAreNotShared(t *testing.T) {
	room := []string{"b", "a", "x", "y"}
	n := row(t, room[:2]...)
	check(t, "list and spare room", strings.Join(room, " "), "b a x y")
	room[0], room[1] = "p", "q"
	checkRow(t, "a list changed", n, "a", "b")
	all := n.All()
	all[0] = "z"
	_ = append(all[:1], "z")
	checkRow(t, "an answer changed", n, "a", "b")
}

// P4.3: the row hangs on which names there are, in whatever order they came.
func TestOrderOfNamesIsNothing(t *testing.T) {
	want := []string{"A", "a", "a.1", "b", "c"}
	l := slices.Clone(want)
	orders := 0
	permute(l, 0, func() {
		orders++
		checkRow(t, strings.Join(l, ","), row(t, l...), want...)
		var n names.Names
		for _, s := range l {
			n, _ = n.With(s)
		}
		checkRow(t, "one by one "+strings.Join(l, ","), n, want...)
	})
	check(t, "orders", orders, 120)
}

// permute: does something at each order of a list's rest.
func permute(l []string, from int, do func()) {
	if from == len(l) {
		do()
		return
	}
	for i := from; i < len(l); i++ {
		l[from], l[i] = l[i], l[from]
		permute(l, from+1, do)
		l[from], l[i] = l[i], l[from]
	}
}
