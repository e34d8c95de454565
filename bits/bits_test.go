package bits_test

import (
	"math"
	"slices"
	"strconv"
	"testing"

	"fairlead/api"
	"fairlead/bits"
)

func check[T comparable](t *testing.T, what string, got, want T) {
	t.Helper()
	if got != want {
		t.Errorf("%s: got %v, want %v", what, got, want)
	}
}

func checkList(t *testing.T, what string, got, want []int) {
	t.Helper()
	if !slices.Equal(got, want) {
		t.Errorf("%s: got %v, want %v", what, got, want)
	}
}

func digits(i int) string { return strconv.Itoa(i) }

// model: a set as one bool a number.
type model [128]bool

// set: what a model tells, by the words' bits alone.
func (m model) set() bits.Set {
	var s bits.Set
	for i, there := range m {
		if there {
			s[i/64] |= uint64(1) << uint(i%64)
		}
	}
	return s
}

// numbers: those that are there, rising.
func (m model) numbers() []int {
	var l []int
	for i, there := range m {
		if there {
			l = append(l, i)
		}
	}
	return l
}

// modelOf: the model of some numbers within.
func modelOf(l ...int) model {
	var m model
	for _, i := range l {
		m[i] = true
	}
	return m
}

// ends are the numbers at the ends of the words, and beside them.
func ends() []int { return []int{0, 1, 62, 63, 64, 65, 126, 127} }

// outside are numbers that no set has: beside the ends, those that would be
// within once they went round, and the ends of ints.
func outside() []int {
	l := []int{-1, -2, -63, -64, -65, -127, -128, -129, 128, 129, 191, 192, 193, 255, 256, 1000,
		math.MinInt8, math.MinInt16, math.MinInt32, math.MinInt32 + 1, math.MaxInt32, math.MinInt, math.MinInt + 1, math.MinInt + 64, math.MaxInt, math.MaxInt - 63}
	return append(l, 1<<32, 1<<32+5, 1<<62, -1<<32, 1<<16)
}

// models: each that has some of the ends, some of the words' middles, and some
// that are spread all over.
func models() []model {
	var l []model
	for some := range 1 << len(ends()) {
		var m model
		for at, i := range ends() {
			m[i] = some>>at&1 == 1
		}
		l = append(l, m)
	}
	for step := 1; step <= 70; step += 3 {
		var m model
		for i := step / 2; i < 128; i += step {
			m[i] = true
		}
		l = append(l, m)
	}
	return append(l, middles()...)
}

// middles: runs of numbers within, or over, the words.
func middles() []model {
	var l []model
	for _, run := range [][2]int{{0, 64}, {64, 128}, {0, 63}, {1, 64}, {64, 127}, {65, 128}, {20, 40}, {50, 80}, {63, 65}, {90, 91}, {0, 127}, {1, 128}} {
		var m model
		for i := run[0]; i < run[1]; i++ {
			m[i] = true
		}
		l = append(l, m)
	}
	return l
}

// both: the model of the numbers that a rule takes from two.
func both(a, b model, takes func(a, b bool) bool) model {
	var m model
	for i := range m {
		m[i] = takes(a[i], b[i])
	}
	return m
}

// The set's limit, and the form of its type.
func TestForm(t *testing.T) {
	check(t, "MaxSet", api.MaxSet, 128)
	var words [2]uint64 = bits.Of(0, 127)
	check(t, "words", words, [2]uint64{1, 1 << 63})
}

// P7.1: bit i modulo 64 of the word i / 64 tells of i, put in any way.
func TestBitOfEachNumber(t *testing.T) {
	for i := range 128 {
		want := modelOf(i).set()
		check(t, "Of "+digits(i), bits.Of(i), want)
		check(t, "With "+digits(i), bits.Set{}.With(i), want)
		check(t, "both Upto", bits.Upto(i+1).Less(bits.Upto(i)), want)
		for k := range 128 {
			check(t, digits(k)+" in the set of "+digits(i), want.Has(k), i == k)
		}
	}
	check(t, "0", bits.Of(0), bits.Set{1, 0})
	check(t, "63", bits.Of(63), bits.Set{1 << 63, 0})
	check(t, "64", bits.Of(64), bits.Set{0, 1})
	check(t, "127", bits.Of(127), bits.Set{0, 1 << 63})
}

// P7.1: the set of some numbers, in whatever order, however often each comes.
func TestOf(t *testing.T) {
	check(t, "none", bits.Of(), bits.Set{})
	check(t, "an empty list", bits.Of([]int{}...), bits.Set{})
	check(t, "a nil list", bits.Of(nil...), bits.Set{})
	check(t, "some", bits.Of(5, 3, 5), bits.Set{1<<5 | 1<<3, 0})
	check(t, "its length", bits.Of(5, 3, 5).Len(), 2)
	check(t, "its first", bits.Of(5, 3, 5).First(), 3)
	check(t, "one three times", bits.Of(127, 127, 127), bits.Of(127))
	check(t, "turned about", bits.Of(64, 0, 127, 63), bits.Of(63, 127, 0, 64))
	for _, m := range models() {
		l := m.numbers()
		check(t, "rising", bits.Of(l...), m.set())
		slices.Reverse(l)
		check(t, "falling, twice", bits.Of(append(l, l...)...), m.set())
	}
}

// P7.1: numbers outside aren't put in by Of, and those about them are.
func TestOfOutside(t *testing.T) {
	check(t, "all of them", bits.Of(outside()...), bits.Set{})
	for _, i := range outside() {
		check(t, "Of "+digits(i), bits.Of(i), bits.Set{})
		check(t, "Of 0, 127 and "+digits(i), bits.Of(0, i, 127), bits.Of(0, 127))
	}
}

// P7.1, and the rule of memory: Of leaves its list, and what is behind it.
func TestOfChangesNothing(t *testing.T) {
	room := []int{9, -1, 200, 7}
	s := bits.Of(room[:3]...)
	checkList(t, "list and spare room", room, []int{9, -1, 200, 7})
	room[0] = 50
	check(t, "once the list was changed", s, bits.Of(9))
}

// P7.1: all up to a number, without it.
func TestUpto(t *testing.T) {
	for n := range 129 {
		var m model
		for i := range n {
			m[i] = true
		}
		check(t, "Upto "+digits(n), bits.Upto(n), m.set())
		check(t, "how many below "+digits(n), bits.Upto(n).Len(), n)
	}
	all := bits.Set{math.MaxUint64, math.MaxUint64}
	check(t, "1", bits.Upto(1), bits.Set{1, 0})
	check(t, "64", bits.Upto(64), bits.Set{math.MaxUint64, 0})
	check(t, "127", bits.Upto(127), bits.Set{math.MaxUint64, math.MaxUint64 >> 1})
	check(t, "128", bits.Upto(128), all)
	for _, n := range outside() {
		want := bits.Set{}
		if n > 0 {
			want = all
		}
		check(t, "Upto "+digits(n), bits.Upto(n), want)
	}
}

// P7.1: asked for, put in and taken out, one number, whatever else is there.
func TestHasWithWithout(t *testing.T) {
	for _, m := range models() {
		s := m.set()
		for i := range 128 {
			check(t, "Has "+digits(i), s.Has(i), m[i])
			more, less := m, m
			more[i], less[i] = true, false
			check(t, "With "+digits(i), s.With(i), more.set())
			check(t, "Without "+digits(i), s.Without(i), less.set())
			check(t, "With, again", s.With(i).With(i), more.set())
			check(t, "Without, again", s.Without(i).Without(i), less.set())
			check(t, "With, then Without", s.With(i).Without(i), less.set())
			check(t, "Without, then With", s.Without(i).With(i), more.set())
		}
	}
}

// P7.1: numbers outside are in no set, and make no difference to one.
func TestHasWithWithoutOutside(t *testing.T) {
	for _, s := range []bits.Set{{}, bits.Of(0), bits.Of(63, 64), bits.Of(127), bits.Upto(128), bits.Upto(127)} {
		for _, i := range outside() {
			check(t, "Has "+digits(i), s.Has(i), false)
			check(t, "With "+digits(i), s.With(i), s)
			check(t, "Without "+digits(i), s.Without(i), s)
		}
	}
}

// P7.1: of either, of both, of the first alone.
func TestOrAndLess(t *testing.T) {
	for _, a := range models() {
		for _, b := range models() {
			s, u := a.set(), b.set()
			check(t, "Or", s.Or(u), both(a, b, func(a, b bool) bool { return a || b }).set())
			check(t, "And", s.And(u), both(a, b, func(a, b bool) bool { return a && b }).set())
			check(t, "Less", s.Less(u), both(a, b, func(a, b bool) bool { return a && !b }).set())
		}
	}
}

// P7.1: of the empty set and that of all.
func TestOrAndLessOfNoneAndAll(t *testing.T) {
	none, all := bits.Of(), bits.Upto(128)
	for _, m := range models() {
		s := m.set()
		check(t, "or none", s.Or(none), s)
		check(t, "or all", s.Or(all), all)
		check(t, "and none", s.And(none), none)
		check(t, "and all", s.And(all), s)
		check(t, "less none", s.Less(none), s)
		check(t, "less all", s.Less(all), none)
		check(t, "none less it", none.Less(s), none)
		check(t, "less itself", s.Less(s), none)
		check(t, "all less it, twice", all.Less(all.Less(s)), s)
	}
}

// P7.1: how many, and whether there is none.
func TestLenEmpty(t *testing.T) {
	for _, m := range models() {
		n := len(m.numbers())
		check(t, "Len", m.set().Len(), n)
		check(t, "Empty", m.set().Empty(), n == 0)
	}
	check(t, "of none", bits.Of().Empty() && bits.Set{}.Empty() && bits.Set{}.Len() == 0, true)
	check(t, "of all", bits.Upto(128).Len() == 128 && !bits.Upto(128).Empty(), true)
	for i := range 128 {
		check(t, "of "+digits(i), bits.Of(i).Len() == 1 && !bits.Of(i).Empty(), true)
		check(t, "of all but "+digits(i), bits.Upto(128).Without(i).Len(), 127)
	}
}

// The sets can be held against each other, however they were made.
func TestHeldAgainstOneMadeOtherwise(t *testing.T) {
	for _, m := range models() {
		up, down := bits.Set{}, bits.Upto(128)
		for i, there := range m {
			if there {
				up = up.With(i)
			} else {
				down = down.Without(i)
			}
		}
		check(t, "put in, taken out", up, down)
		check(t, "put in, of a list", up, bits.Of(m.numbers()...))
		check(t, "of what is told", bits.Of(up.List()...), up)
		for i, there := range m {
			other := up.With(i)
			if there {
				other = up.Without(i)
			}
			check(t, "but for "+digits(i), up == other, false)
		}
	}
	names := map[bits.Set]int{bits.Of(1, 70): 1, bits.Of(70): 2}
	check(t, "as a key", names[bits.Of(70).With(1)], 1)
}

// P7.2: is each of one in another one?
func TestUnder(t *testing.T) {
	for _, a := range models() {
		for _, b := range models() {
			want := true
			for i := range a {
				want = want && (!a[i] || b[i])
			}
			check(t, "Under", a.set().Under(b.set()), want)
		}
	}
	none, all := bits.Set{}, bits.Upto(128)
	check(t, "none under none", none.Under(none), true)
	check(t, "none under all", none.Under(all), true)
	check(t, "all under none", all.Under(none), false)
	check(t, "all under all", all.Under(all), true)
	check(t, "all under all but one", all.Under(all.Without(64)), false)
}

// P7.2: the least, and all, rising, of either word and of both.
func TestFirstAllList(t *testing.T) {
	for _, m := range models() {
		s, want := m.set(), m.numbers()
		first := -1
		if len(want) > 0 {
			first = want[0]
		}
		check(t, "First", s.First(), first)
		checkList(t, "List", s.List(), want)
		checkList(t, "All", slices.Collect(s.All()), want)
	}
	check(t, "first of none", bits.Set{}.First(), -1)
	check(t, "list of none", len(bits.Set{}.List()), 0)
	for i := range 128 {
		check(t, "first of one", bits.Of(i).First(), i)
		checkList(t, "list of one", bits.Of(i).List(), []int{i})
		check(t, "first from one on", bits.Upto(128).Less(bits.Upto(i)).First(), i)
	}
}

// P7.2: All goes as far as it is asked, no further, and anew each time.
func TestAllInPart(t *testing.T) {
	for _, m := range models() {
		all, want := m.set().All(), m.numbers()
		for n := 1; n <= len(want); n++ {
			var got []int
			all(func(i int) bool {
				got = append(got, i)
				return len(got) < n
			})
			checkList(t, "the first "+digits(n), got, want[:n])
		}
		checkList(t, "all, behind the parts", slices.Collect(all), want)
	}
	for range bits.Upto(128).All() {
		break
	}
}

// P7.2: All within All, of one set, each by itself.
func TestAllWithinAll(t *testing.T) {
	all := bits.Of(0, 63, 64, 127).All()
	var got []int
	for i := range all {
		for k := range all {
			if k > i {
				break
			}
			got = append(got, k)
		}
	}
	checkList(t, "each up to each", got, []int{0, 0, 63, 0, 63, 64, 0, 63, 64, 127})
}

// P7.2, and the rule of memory: All tells of the set as it was, and what was
// listed is the asker's own.
func TestAllAndListAreTheirOwn(t *testing.T) {
	s := bits.Of(1, 2, 100)
	all, list := s.All(), s.List()
	s[0], s[1] = 1<<5, 0
	checkList(t, "All once the set was changed", slices.Collect(all), []int{1, 2, 100})
	checkList(t, "List once the set was changed", list, []int{1, 2, 100})
	checkList(t, "the changed set", s.List(), []int{5})
	list[0] = 9
	_ = append(list[:1], 8)
	checkList(t, "another list", s.List(), []int{5})
	u := bits.Upto(70)
	for i := range u.All() {
		u = u.Without(i).Without(i + 1)
	}
	check(t, "taken out on the way", u, bits.Set{})
}

// A set stays as it is, whatever is asked of it.
func TestSetsStay(t *testing.T) {
	s := bits.Of(3, 64)
	u := s
	s.With(5)
	s.Without(3)
	s.Or(bits.Upto(128))
	s.And(bits.Set{})
	s.Less(s)
	check(t, "as it was", s, u)
}

// P7.3: Or and And can be turned about.
func TestOrAndTurnedAbout(t *testing.T) {
	for _, a := range models() {
		for _, b := range models() {
			s, u := a.set(), b.set()
			check(t, "Or", s.Or(u), u.Or(s))
			check(t, "And", s.And(u), u.And(s))
		}
	}
}

// P7.3: they can be put together, and go over one another.
func TestOrAndPutTogether(t *testing.T) {
	l := append(middles(), modelOf(), modelOf(0), modelOf(127), modelOf(63, 64), modelOf(0, 1, 62, 65), modelOf(ends()...))
	for _, a := range l {
		for _, b := range l {
			for _, c := range l {
				s, u, v := a.set(), b.set(), c.set()
				check(t, "Or of Or", s.Or(u).Or(v), s.Or(u.Or(v)))
				check(t, "And of And", s.And(u).And(v), s.And(u.And(v)))
				check(t, "And over Or", s.And(u.Or(v)), s.And(u).Or(s.And(v)))
				check(t, "Or over And", s.Or(u.And(v)), s.Or(u).And(s.Or(v)))
			}
		}
	}
}
