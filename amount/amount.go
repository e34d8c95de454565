// Package amount is layer 2: what things cost, whole numbers that end at
// MaxCost: see shared/doc/02-amount.md.
package amount

import (
	"math/bits"
	"strconv"

	"fairlead/api"
	"fairlead/oops"
)

// mostDigits is how many digits MaxCost has; no number of as many goes beyond
// 64 bits, so it may be reckoned ahead of being compared.
const mostDigits = 19

// Cap: an amount, at most the greatest.
func Cap(a uint64) uint64 { return min(a, api.MaxCost) }

// Add: of two amounts.
func Add(a, b uint64) uint64 {
	// two capped ones come to less than 2^64, so this doesn't go round
	return Cap(Cap(a) + Cap(b))
}

// Mul: of two amounts.
func Mul(a, b uint64) uint64 {
	high, low := bits.Mul64(Cap(a), Cap(b))
	if high > 0 {
		return api.MaxCost
	}
	return Cap(low)
}

// Sum: of any.
func Sum(l ...uint64) uint64 {
	total := uint64(0)
	for _, a := range l {
		total = Add(total, a)
	}
	return total
}

// Digits: an amount as a text.
func Digits(a uint64) string { return strconv.FormatUint(Cap(a), 10) }

// Parse: the amount of a text.
func Parse(s string) (uint64, error) {
	at := digitsAhead(s)
	switch {
	case s == "":
		return 0, oops.New(api.ErrShort, 0)
	case at < len(s):
		return 0, oops.New(api.ErrForm, at)
	case len(s) > 1 && s[0] == '0':
		return 0, oops.New(api.ErrForm, 0)
	case len(s) > mostDigits: // its value would go round
		fallthrough
	case value(s) > api.MaxCost:
		return 0, oops.New(api.ErrRange, 0)
	}
	return value(s), nil
}

// digitsAhead: how many digits a text begins with.
func digitsAhead(s string) int {
	for i := range len(s) {
		if s[i] < '0' || s[i] > '9' {
			return i
		}
	}
	return len(s)
}

// value: what at most mostDigits digits tell.
func value(digits string) uint64 {
	n := uint64(0)
	for i := range len(digits) {
		n = n*10 + uint64(digits[i]-'0')
	}
	return n
}
