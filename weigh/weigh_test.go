package weigh_test

import (
	"math"
	"math/rand"
	"strconv"
	"strings"
	"testing"

	"fairlead/amount"
	"fairlead/api"
	"fairlead/oops"
	"fairlead/weigh"
)

func check[T comparable](t *testing.T, what string, got, want T) {
	t.Helper()
	if got != want {
		t.Errorf("%s: got %v, want %v", what, got, want)
	}
}

// checkNil: is it no error?
func checkNil(t *testing.T, what string, err error) {
	t.Helper()
	if err != nil {
		t.Errorf("%s: %v, want nil", what, err)
	}
}

// checkFault: is it just a fault there, within no words?
func checkFault(t *testing.T, what string, err error, code api.Errno, at int) {
	t.Helper()
	want := oops.New(code, at)
	if err == nil || !oops.Same(err, want) || err.Error() != want.Error() {
		t.Errorf("%s: %v, want %v", what, err, want)
	}
}

// amounts: such as lie at ends, and others.
func amounts() []uint64 {
	return []uint64{
		0, 1, 2, 3, 7, 10, 999999, api.MaxWeight, api.MaxWeight + 1, 1 << 32, 1<<43 + 5,
		api.MaxCost / api.MaxWeight, api.MaxCost/api.MaxWeight + 1, api.MaxCost - 1,
		api.MaxCost, api.MaxCost + 1, math.MaxUint64 - 1, math.MaxUint64,
	}
}

// The form of the type.
func TestForm(t *testing.T) {
	check(t, "a weight", weigh.Weight{1, 2, 3}, weigh.Weight{Hops: 1, Dist: 2, Pushes: 3})
}

// P20.1: a weight may be, where none of the three is above MaxWeight.
func TestCheck(t *testing.T) {
	const most = api.MaxWeight
	for _, w := range []weigh.Weight{
		{}, {1, 2, 3}, {most, 0, 0}, {0, most, 0}, {0, 0, most}, {most, most, most},
	} {
		checkNil(t, "a weight that may be", w.Check())
	}
	for _, c := range []struct {
		w  weigh.Weight
		at int
	}{
		{weigh.Weight{most + 1, 0, 0}, 0}, {weigh.Weight{0, most + 1, 0}, 1}, {weigh.Weight{0, 0, most + 1}, 2},
		{weigh.Weight{most + 1, most + 1, most + 1}, 0}, {weigh.Weight{most, most + 1, most + 1}, 1},
		{weigh.Weight{most + 1, 0, most + 1}, 0}, {weigh.Weight{most, most, math.MaxUint64}, 2},
		{weigh.Weight{1 << 32, 0, 0}, 0}, {weigh.Weight{0, 1 << 63, 0}, 1},
	} {
		checkFault(t, "a weight that is too great", c.w.Check(), api.ErrRange, c.at)
		s, err := c.w.Print()
		checkFault(t, "one that is printed", err, api.ErrRange, c.at)
		check(t, "beside an error", s, "")
	}
}

// P20.1: the text of what isn't 0, with + between; of 1 the word alone.
func TestPrint(t *testing.T) {
	for _, c := range []struct {
		w    weigh.Weight
		text string
	}{
		{weigh.Weight{}, "0"},
		{weigh.Weight{Hops: 1}, "hops"},
		{weigh.Weight{Dist: 1}, "dist"},
		{weigh.Weight{Pushes: 1}, "pushes"},
		{weigh.Weight{Hops: 2}, "2*hops"},
		{weigh.Weight{Dist: 10}, "10*dist"},
		{weigh.Weight{Pushes: api.MaxWeight}, "1000000*pushes"},
		{weigh.Weight{1, 1, 1}, "hops + dist + pushes"},
		{weigh.Weight{0, 1, 1}, "dist + pushes"},
		{weigh.Weight{1, 0, 5}, "hops + 5*pushes"},
		{weigh.Weight{11, 1, 0}, "11*hops + dist"},
		{weigh.Weight{3, 2, 9}, "3*hops + 2*dist + 9*pushes"},
		{weigh.Weight{Hops: 2, Pushes: 1}, "2*hops + pushes"},
	} {
		s, err := c.w.Print()
		checkNil(t, c.text, err)
		check(t, "the text", s, c.text)
	}
}

// P20.1: the sum of the three products; sums and products end.
func TestCost(t *testing.T) {
	check(t, "two links with one Push", weigh.Weight{Hops: 2, Pushes: 1}.Cost(2, 0, 1), 5)
	check(t, "of each", weigh.Weight{3, 5, 7}.Cost(11, 13, 17), 3*11+5*13+7*17)
	check(t, "of hops", weigh.Weight{3, 5, 7}.Cost(2, 0, 0), 6)
	check(t, "of dist", weigh.Weight{3, 5, 7}.Cost(0, 2, 0), 10)
	check(t, "of pushes", weigh.Weight{3, 5, 7}.Cost(0, 0, 2), 14)
	check(t, "by nothing", weigh.Weight{}.Cost(1, 2, 3), 0)
	check(t, "of nothing", weigh.Weight{1, 2, 3}.Cost(0, 0, 0), 0)
	check(t, "a product that is too great", weigh.Weight{Dist: 2}.Cost(0, api.MaxCost-1, 0), api.MaxCost)
	check(t, "one that goes round", weigh.Weight{Hops: 4}.Cost(1<<62, 0, 0), api.MaxCost)
	check(t, "a sum that is too great", weigh.Weight{1, 1, 1}.Cost(api.MaxCost, 0, 1), api.MaxCost)
	check(t, "a sum that goes round", weigh.Weight{1, 1, 1}.Cost(api.MaxCost, api.MaxCost, api.MaxCost), api.MaxCost)
	check(t, "what is above the greatest amount", weigh.Weight{Hops: 1}.Cost(math.MaxUint64, 0, 0), api.MaxCost)
	check(t, "the greatest amount", weigh.Weight{Hops: 1, Dist: 1}.Cost(api.MaxCost-5, 5, 9), api.MaxCost)
	check(t, "one below it", weigh.Weight{Hops: 1, Dist: 1}.Cost(api.MaxCost-5, 4, 9), api.MaxCost-1)
	for _, a := range amounts() {
		for _, b := range amounts() {
			want := amount.Sum(amount.Mul(a, b), amount.Mul(b, b), amount.Mul(1, a))
			check(t, "any", weigh.Weight{a, b, 1}.Cost(b, b, a), want)
		}
	}
}

// P20.1: one link costs what it costs, and its distance.
func TestLink(t *testing.T) {
	check(t, "of hops", weigh.Weight{Hops: 3}.Link(9), 3)
	check(t, "of dist", weigh.Weight{Dist: 3}.Link(9), 27)
	check(t, "of pushes", weigh.Weight{Pushes: 3}.Link(9), 0)
	check(t, "of all", weigh.Weight{2, 3, 4}.Link(9), 29)
	check(t, "of no distance", weigh.Weight{2, 3, 4}.Link(0), 2)
	check(t, "of the greatest", weigh.Weight{Dist: api.MaxWeight}.Link(math.MaxUint64), api.MaxCost)
	for _, a := range amounts() {
		for _, b := range amounts() {
			check(t, "any", weigh.Weight{a, b, 5}.Link(a), weigh.Weight{a, b, 0}.Cost(1, a, 0))
		}
	}
}

// P20.3: what is printed is read as it was.
func TestPrintedIsRead(t *testing.T) {
	rnd := rand.New(rand.NewSource(20))
	for range 2000 {
		w := weigh.Weight{few(rnd), few(rnd), few(rnd)}
		s, err := w.Print()
		checkNil(t, "a weight that may be", err)
		back, err := weigh.Parse(s)
		checkNil(t, s, err)
		check(t, s, back, w)
	}
}

// few: a part of a weight, often 0 or 1.
func few(rnd *rand.Rand) uint64 {
	l := []uint64{0, 0, 1, 2, 10, api.MaxWeight, uint64(rnd.Intn(api.MaxWeight))}
	return l[rnd.Intn(len(l))]
}

// P20.3: a path that goes on another one costs what both cost.
func TestCostsOfBoth(t *testing.T) {
	rnd := rand.New(rand.NewSource(203))
	l := amounts()
	any := func() uint64 { return l[rnd.Intn(len(l))] }
	for range 20000 {
		w := weigh.Weight{few(rnd), few(rnd), few(rnd)}
		a, b, c, d, e, f := any(), any(), any(), any(), any(), any()
		both := w.Cost(amount.Add(a, d), amount.Add(b, e), amount.Add(c, f))
		check(t, "both", both, amount.Add(w.Cost(a, b, c), w.Cost(d, e, f)))
		check(t, "links", w.Cost(2, amount.Add(a, b), c), amount.Sum(w.Link(a), w.Link(b), w.Cost(0, 0, c)))
	}
}

// reads: is a text read as that, in blanks of its own, too?
func reads(t *testing.T, s string, want weigh.Weight) {
	t.Helper()
	for _, blank := range []string{"", " ", "\t", "\n", "\r", "   ", " \t\r\n "} {
		spread := strings.ReplaceAll(s, " ", blank)
		w, err := weigh.Parse(spread)
		checkNil(t, strconv.Quote(spread), err)
		check(t, strconv.Quote(spread), w, want)
	}
}

// refused: is a text refused, at the place of the @ in it?
func refused(t *testing.T, marked string, code api.Errno) {
	t.Helper()
	s, at := strings.Replace(marked, "@", "", 1), strings.Index(marked, "@")
	w, err := weigh.Parse(s)
	checkFault(t, strconv.Quote(marked), err, code, at)
	check(t, strconv.Quote(marked)+": beside an error", w, weigh.Weight{})
}

// P20.2: words in any order, with and without numbers, blanks around all.
func TestParse(t *testing.T) {
	reads(t, " 0 ", weigh.Weight{})
	reads(t, " hops ", weigh.Weight{Hops: 1})
	reads(t, " dist ", weigh.Weight{Dist: 1})
	reads(t, " pushes ", weigh.Weight{Pushes: 1})
	reads(t, " 2 * hops ", weigh.Weight{Hops: 2})
	reads(t, " 0 * hops ", weigh.Weight{})
	reads(t, " 1 * pushes ", weigh.Weight{Pushes: 1})
	reads(t, " 1000000 * dist ", weigh.Weight{Dist: api.MaxWeight})
	reads(t, " 999999 * dist ", weigh.Weight{Dist: 999999})
	reads(t, " 2 * hops + pushes ", weigh.Weight{Hops: 2, Pushes: 1})
	reads(t, " pushes + 2 * hops ", weigh.Weight{Hops: 2, Pushes: 1})
	reads(t, " pushes + dist + hops ", weigh.Weight{1, 1, 1})
	reads(t, " 7 * dist + 10 * pushes + 0 * hops ", weigh.Weight{0, 7, 10})
	reads(t, " 0 * dist + 0 * hops + 0 * pushes ", weigh.Weight{})
	reads(t, " dist + 5 * hops ", weigh.Weight{5, 1, 0})
	long := strings.Repeat(" ", api.MaxText-4)
	reads(t, long[:len(long)/10]+"hops", weigh.Weight{Hops: 1})
	w, err := weigh.Parse(long + "dist")
	checkNil(t, "the longest text", err)
	check(t, "the longest text", w, weigh.Weight{Dist: 1})
}

// P20.2: a text that is too long is refused ahead of all else.
func TestParseLong(t *testing.T) {
	for _, begin := range []string{"hops", "?", "00"} {
		w, err := weigh.Parse(begin + strings.Repeat(" ", api.MaxText+1-len(begin)))
		checkFault(t, "too long a text", err, api.ErrLong, api.MaxText)
		check(t, "beside an error", w, weigh.Weight{})
	}
}

// P20.2: where a word or a digit must stand.
func TestParseTerm(t *testing.T) {
	refused(t, "@", api.ErrShort)
	refused(t, "  @", api.ErrShort)
	refused(t, "hops+@", api.ErrShort)
	refused(t, "hops + @", api.ErrShort)
	for _, wrong := range []string{"+", "*", "?", "-1", ".", "\x00", "\v", "(hops)", "\u00a0", "#", "$ip", ":", "/", "@", "`", "[", "{"} {
		refused(t, "@"+wrong, api.ErrForm)
		refused(t, " @"+wrong+"hops", api.ErrForm)
		refused(t, "hops + @"+wrong, api.ErrForm)
		refused(t, "2*hops+3*dist+ @"+wrong+"pushes", api.ErrForm)
	}
	refused(t, "hops + @+ dist", api.ErrForm)
}

// P20.2: numbers that are none, or too great, ahead of what stands behind them.
func TestParseNumber(t *testing.T) {
	refused(t, "@00", api.ErrForm)
	refused(t, "@01*hops", api.ErrForm)
	refused(t, " @007", api.ErrForm)
	refused(t, "hops + @00*dist", api.ErrForm)
	for _, great := range []string{"1000001", "9223372036854775807", "9223372036854775808", "18446744073709551616", "18446744073709551617", strings.Repeat("9", 100)} {
		refused(t, "@"+great+"*hops", api.ErrRange)
		refused(t, " @"+great, api.ErrRange)
		refused(t, "@"+great+"?", api.ErrRange)
		refused(t, "hops +\t@"+great+" * dist", api.ErrRange)
		refused(t, "hops + @"+great+" * hops", api.ErrRange)
	}
}

// P20.2: where a star must stand.
func TestParseStar(t *testing.T) {
	refused(t, "5@", api.ErrShort)
	refused(t, "1 @", api.ErrShort)
	refused(t, "1000000@", api.ErrShort)
	refused(t, "hops + 0@", api.ErrShort)
	refused(t, "hops + 0  @", api.ErrShort)
	refused(t, "0 @0", api.ErrForm)
	refused(t, "0 @+ hops", api.ErrForm)
	refused(t, "0@hops", api.ErrForm)
	refused(t, "0 @x", api.ErrForm)
	refused(t, "0@.5*hops", api.ErrForm)
	refused(t, "0@\v", api.ErrForm)
	refused(t, "2@hops", api.ErrForm)
	refused(t, "2 @hops", api.ErrForm)
	refused(t, "2 @2*hops", api.ErrForm)
	refused(t, "hops + 2 @+ dist", api.ErrForm)
}

// P20.2: where a word must stand, behind a star.
func TestParseWord(t *testing.T) {
	refused(t, "2*@", api.ErrShort)
	refused(t, "2 * @", api.ErrShort)
	refused(t, "0*@", api.ErrShort)
	refused(t, "2*@3", api.ErrForm)
	refused(t, "2 * @3*hops", api.ErrForm)
	refused(t, "2* @*hops", api.ErrForm)
	refused(t, "2*@+hops", api.ErrForm)
	refused(t, "@"+strings.Repeat("a", api.MaxName+1), api.ErrLong)
	refused(t, "2*@"+strings.Repeat("a", api.MaxName+1), api.ErrLong)
	refused(t, "hops + @hops"+strings.Repeat("-", api.MaxName), api.ErrLong)
	refused(t, "@"+strings.Repeat("a", api.MaxName), api.ErrWord)
	for _, other := range []string{"x", "hop", "Hops", "HOPS", "hops-", "hops.", "hops2", "hopsdist", "distance", "push", "_", "cost", "pushes_"} {
		refused(t, "@"+other, api.ErrWord)
		refused(t, " 2 * @"+other+" + ?", api.ErrWord)
		refused(t, "hops + dist + @"+other, api.ErrWord)
	}
}

// P20.2: each word once.
func TestParseTwice(t *testing.T) {
	refused(t, "hops + @hops", api.ErrTwice)
	refused(t, "dist+@dist", api.ErrTwice)
	refused(t, "2*pushes + hops + 3*@pushes", api.ErrTwice)
	refused(t, "0*hops + @hops", api.ErrTwice)
	refused(t, "0*dist + 0*@dist", api.ErrTwice)
	refused(t, "hops + dist + pushes + 5 * @dist ?", api.ErrTwice)
	refused(t, "hops + dist + pushes + @", api.ErrShort)
}

// P20.2: what stands behind a word, but no +.
func TestParseBehind(t *testing.T) {
	refused(t, "hops @dist", api.ErrForm)
	refused(t, "hops @hops", api.ErrForm)
	refused(t, "hops@*2", api.ErrForm)
	refused(t, "hops @5", api.ErrForm)
	refused(t, "2*hops @0", api.ErrForm)
	refused(t, "hops + dist\t@, pushes", api.ErrForm)
	refused(t, "hops@\v", api.ErrForm)
	refused(t, "hops@\x00", api.ErrForm)
	refused(t, "hops@\u00a0", api.ErrForm)
}
