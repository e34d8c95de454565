package amount_test

import (
	"math"
	"math/big"
	"slices"
	"strconv"
	"strings"
	"testing"

	"fairlead/amount"
	"fairlead/api"
	"fairlead/oops"
)

func check[T comparable](t *testing.T, what string, got, want T) {
	t.Helper()
	if got != want {
		t.Errorf("%s: got %v, want %v", what, got, want)
	}
}

// samples: small ones, those about each end that a reckoning may meet, and
// those that come to just MaxCost, or just miss it, with one another.
func samples() []uint64 {
	l := []uint64{0, 1, 2, 3, 5, 7, 9, 10, 11, 49, 73, 127, 337, 1000000, 92737, 649657, 1e18, 1e19}
	for _, middle := range []uint64{1 << 31, 1 << 32, 1 << 62, api.MaxCost / 7, api.MaxCost / 3, api.MaxCost / 2, api.MaxCost} {
		l = append(l, middle-1, middle, middle+1)
	}
	return append(l, api.MaxCost-5, api.MaxCost+5, 3<<62, math.MaxUint64-1, math.MaxUint64)
}

func short(n uint64) string { return strconv.FormatUint(n, 10) }

// whole: a capped amount as a number without an end.
func whole(n uint64) *big.Int {
	return new(big.Int).SetUint64(min(n, 1<<63-1))
}

// ended: the amount that a number without an end is taken to be.
func ended(n *big.Int) uint64 {
	most := new(big.Int).SetUint64(1<<63 - 1)
	if n.Cmp(most) > 0 {
		return most.Uint64()
	}
	return n.Uint64()
}

// P2.1: Cap leaves amounts, and ends what is above.
func TestCap(t *testing.T) {
	for _, a := range samples() {
		check(t, "Cap "+short(a), amount.Cap(a), ended(whole(a)))
	}
	check(t, "MaxCost", amount.Cap(api.MaxCost), api.MaxCost)
	check(t, "one less", amount.Cap(api.MaxCost-1), api.MaxCost-1)
	check(t, "one more", amount.Cap(1<<63), api.MaxCost)
	check(t, "all ones", amount.Cap(math.MaxUint64), api.MaxCost)
}

// P2.1: sums and products end, and never go round.
func TestAddMul(t *testing.T) {
	for _, a := range samples() {
		for _, b := range samples() {
			sum := ended(new(big.Int).Add(whole(a), whole(b)))
			product := ended(new(big.Int).Mul(whole(a), whole(b)))
			check(t, "Add "+short(a)+" "+short(b), amount.Add(a, b), sum)
			check(t, "Mul "+short(a)+" "+short(b), amount.Mul(a, b), product)
		}
	}
}

// P2.1: the ends of Add and Mul, written out.
func TestAddMulEnds(t *testing.T) {
	check(t, "2+3", amount.Add(2, 3), 5)
	check(t, "max+5", amount.Add(api.MaxCost, 5), api.MaxCost)
	check(t, "just max", amount.Add(api.MaxCost-5, 5), api.MaxCost)
	check(t, "just below", amount.Add(api.MaxCost-6, 5), api.MaxCost-1)
	check(t, "that would go round", amount.Add(math.MaxUint64, 1), api.MaxCost)
	check(t, "twice the greatest", amount.Add(math.MaxUint64, math.MaxUint64), api.MaxCost)
	check(t, "6*7", amount.Mul(6, 7), 42)
	check(t, "just max (7 divides it)", amount.Mul(api.MaxCost/7, 7), api.MaxCost)
	check(t, "2^62*2", amount.Mul(1<<62, 2), api.MaxCost)
	check(t, "2^64, whose low word is 0", amount.Mul(1<<32, 1<<32), api.MaxCost)
	check(t, "0*max", amount.Mul(0, math.MaxUint64), 0)
	check(t, "max*0", amount.Mul(api.MaxCost, 0), 0)
	check(t, "1*above", amount.Mul(1, math.MaxUint64), api.MaxCost)
}

// P2.1: Sum of none, of one, of many.
func TestSum(t *testing.T) {
	check(t, "none", amount.Sum(), 0)
	check(t, "of an empty list", amount.Sum([]uint64{}...), 0)
	check(t, "one", amount.Sum(7), 7)
	check(t, "one above", amount.Sum(math.MaxUint64), api.MaxCost)
	check(t, "three", amount.Sum(1, 2, 3), 6)
	check(t, "noughts", amount.Sum(0, 0, 0), 0)
	check(t, "just max", amount.Sum(api.MaxCost-3, 1, 2), api.MaxCost)
	check(t, "just below", amount.Sum(api.MaxCost-4, 1, 2), api.MaxCost-1)
	check(t, "above", amount.Sum(1<<62, 1<<62, 1<<62, 1<<62), api.MaxCost)
	check(t, "above, and on", amount.Sum(math.MaxUint64, math.MaxUint64, 2, 3), api.MaxCost)
}

// P2.1: Sum leaves the list that it is given as it was.
func TestSumChangesNothing(t *testing.T) {
	room := []uint64{math.MaxUint64, 1, 2, 3}
	amount.Sum(room[:2]...)
	check(t, "list and spare room", slices.Equal(room, []uint64{math.MaxUint64, 1, 2, 3}), true)
}

// P2.1: digits, without noughts ahead, at most MaxCost's.
func TestDigits(t *testing.T) {
	check(t, "0", amount.Digits(0), "0")
	check(t, "7", amount.Digits(7), "7")
	check(t, "10", amount.Digits(10), "10")
	check(t, "1000000", amount.Digits(1000000), "1000000")
	check(t, "MaxCost", amount.Digits(api.MaxCost), "9223372036854775807")
	check(t, "one less", amount.Digits(api.MaxCost-1), "9223372036854775806")
	check(t, "one more", amount.Digits(api.MaxCost+1), "9223372036854775807")
	check(t, "all ones", amount.Digits(math.MaxUint64), "9223372036854775807")
}

// P2.2: what Digits writes is read as it was.
func TestParseOfDigits(t *testing.T) {
	for _, a := range samples() {
		checkAmount(t, amount.Digits(a), ended(whole(a)))
	}
}

// P2.2: numbers of each length that an amount may have.
func TestParseOfEachLength(t *testing.T) {
	power := uint64(1)
	for digits := 1; digits <= 19; digits++ {
		checkAmount(t, "1"+strings.Repeat("0", digits-1), power)
		checkAmount(t, "8"+strings.Repeat("9", digits-1), 9*power-1)
		power *= 10
	}
	checkAmount(t, "0", 0)
	checkAmount(t, "9223372036854775806", api.MaxCost-1)
	checkAmount(t, "9223372036854775807", api.MaxCost)
}

func checkAmount(t *testing.T, text string, want uint64) {
	t.Helper()
	got, err := amount.Parse(text)
	if err != nil {
		t.Errorf("Parse(%s): %v", text, err)
	}
	check(t, "Parse of "+text, got, want)
}

// P2.2: each error, and which is told, where several apply.
func TestParseErrors(t *testing.T) {
	long := strings.Repeat("1", 100000)
	rows := []struct {
		text string
		code api.Errno
		at   int
	}{
		{"", api.ErrShort, 0},
		{"x", api.ErrForm, 0},
		{"12x", api.ErrForm, 2},
		{"1x2y", api.ErrForm, 1},
		{" 1", api.ErrForm, 0},
		{"1 ", api.ErrForm, 1},
		{"-1", api.ErrForm, 0},
		{"+1", api.ErrForm, 0},
		{"1.5", api.ErrForm, 1},
		{"1_000", api.ErrForm, 1},
		{"1e3", api.ErrForm, 1},
		{"0x10", api.ErrForm, 1},
		{"1\x00", api.ErrForm, 1},
		{"1/", api.ErrForm, 1},
		{"1:", api.ErrForm, 1},
		{"\xff", api.ErrForm, 0},
		{"12\xd9\xa3", api.ErrForm, 2}, // a digit of another script
		{"00", api.ErrForm, 0},
		{"05", api.ErrForm, 0},
		{"007", api.ErrForm, 0},
		{"00000000000000000000", api.ErrForm, 0},
		{"09223372036854775808", api.ErrForm, 0},
		{"099999999999999999999", api.ErrForm, 0},
		{"05x", api.ErrForm, 2},
		{"0x", api.ErrForm, 1},
		{"9223372036854775808", api.ErrRange, 0},
		{"9999999999999999999", api.ErrRange, 0},
		{"10000000000000000000", api.ErrRange, 0},
		{"18446744073709551615", api.ErrRange, 0},
		{"18446744073709551616", api.ErrRange, 0},
		{"18446744073709551617", api.ErrRange, 0},
		{"36893488147419103233", api.ErrRange, 0},
		{"340282366920938463463374607431768211457", api.ErrRange, 0},
		{"9223372036854775808x", api.ErrForm, 19},
		{long, api.ErrRange, 0},
		{"0" + long, api.ErrForm, 0},
		{long + "x", api.ErrForm, 100000},
	}
	for _, r := range rows {
		name := r.text[:min(len(r.text), 25)]
		got, err := amount.Parse(r.text)
		check(t, "amount beside the error of "+strconv.Quote(name), got, 0)
		checkFault(t, name, err, r.code, r.at)
	}
}

// checkFault: is it just a fault of both, within no words?
func checkFault(t *testing.T, name string, err error, code api.Errno, at int) {
	t.Helper()
	f, ok := err.(*oops.Fault)
	if !ok || f == nil {
		t.Errorf("Parse(%q): %v is no fault", name, err)
		return
	}
	check(t, "fault of "+strconv.Quote(name), *f, oops.Fault{Code: code, At: at})
}

// P2.2: each byte but the ten digits is wrong, ahead and behind.
func TestParseOfEachByte(t *testing.T) {
	for b := range 256 {
		digit := b >= '0' && b <= '9'
		one := string([]byte{byte(b)})
		got, err := amount.Parse(one)
		if digit && (err != nil || got != uint64(b-'0')) {
			t.Errorf("Parse(%q) is %d, %v", one, got, err)
		}
		if !digit {
			checkFault(t, one, err, api.ErrForm, 0)
			_, err = amount.Parse("12" + one)
			checkFault(t, "12"+one, err, api.ErrForm, 2)
		}
	}
}

// P2.3: sums and products can be turned about, put together, and products go
// over sums, also where they end.
func TestLaws(t *testing.T) {
	l := samples()
	for _, a := range l {
		for _, b := range l {
			check(t, "a+b", amount.Add(a, b), amount.Add(b, a))
			check(t, "a*b", amount.Mul(a, b), amount.Mul(b, a))
			for _, c := range l {
				laws(t, a, b, c)
			}
		}
	}
}

func laws(t *testing.T, a, b, c uint64) {
	t.Helper()
	what := short(a) + " " + short(b) + " " + short(c)
	check(t, "sums put together: "+what, amount.Add(amount.Add(a, b), c), amount.Add(a, amount.Add(b, c)))
	check(t, "products put together: "+what, amount.Mul(amount.Mul(a, b), c), amount.Mul(a, amount.Mul(b, c)))
	check(t, "products over sums: "+what, amount.Mul(a, amount.Add(b, c)), amount.Add(amount.Mul(a, b), amount.Mul(a, c)))
	check(t, "sum of three: "+what, amount.Sum(a, b, c), amount.Add(amount.Add(a, b), c))
	check(t, "turned about: "+what, amount.Sum(c, a, b), amount.Sum(a, b, c))
}
