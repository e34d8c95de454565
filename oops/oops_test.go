package oops_test

import (
	"errors"
	"math"
	"slices"
	"strconv"
	"strings"
	"testing"

	"fairlead/api"
	"fairlead/oops"
)

// foreign is somebody else's error around another one, or around none.
type foreign struct{ inner error }

func (f foreign) Error() string {
	if f.inner == nil {
		return "foreign"
	}
	return "foreign of " + f.inner.Error()
}

func (f foreign) Unwrap() error { return f.inner }

// unlike is somebody else's error, two of which can't be held against each other.
type unlike []int

func (u unlike) Error() string { return "unlike" }

// deepest is how far DOC.md lets parts be nested in one another.
const deepest = 1 << 16

func check[T comparable](t *testing.T, what string, got, want T) {
	t.Helper()
	if got != want {
		t.Errorf("%s: got %v, want %v", what, got, want)
	}
}

func checkWords(t *testing.T, what string, err error, want ...string) {
	t.Helper()
	if got := oops.Words(err); !slices.Equal(got, want) {
		t.Errorf("%s: words %q, want %q", what, got, want)
	}
}

// numbers: all of api, and some that it doesn't name.
func numbers() []api.Errno {
	l := []api.Errno{-1, 21, 99, math.MaxInt, math.MinInt}
	for code := api.ErrNil; code <= api.ErrOther; code++ {
		l = append(l, code)
	}
	return l
}

// P1.1: a fault of a number and a place, whatever both are.
func TestNewIsFaultOfBoth(t *testing.T) {
	for _, code := range numbers() {
		for _, at := range []int{0, 1, 7, 65536, -1, -12, math.MaxInt, math.MinInt} {
			err := oops.New(code, at)
			f, ok := err.(*oops.Fault)
			if !ok || f == nil {
				t.Fatalf("New(%d, %d) is %#v, no *Fault", code, at, err)
			}
			check(t, "fault", *f, oops.Fault{Code: code, At: at})
		}
	}
}

// P1.1: the number OK is no error, wherever it is.
func TestNewOfOKIsNil(t *testing.T) {
	for _, at := range []int{0, 3, -3} {
		if err := oops.New(api.OK, at); err != nil {
			t.Errorf("New(OK, %d) is %#v", at, err)
		}
	}
}

// P1.1: a place has just the word and the error that it was given.
func TestInIsPlaceOfBoth(t *testing.T) {
	inner := []error{oops.New(api.ErrForm, 7), oops.In("x", oops.New(api.ErrForm, 7)), errors.New("else"), api.ErrMany}
	for _, in := range inner {
		for _, word := range []string{"net", "", "a: b", "\x00\xff"} {
			err := oops.In(word, in)
			p, ok := err.(*oops.Place)
			if !ok || p == nil {
				t.Fatalf("In(%q, %v) is %#v, no *Place", word, in, err)
			}
			check(t, "word", p.Word, word)
			if p.Err == nil || p.Err != in {
				t.Errorf("In(%q, %v) has the error %v", word, in, p.Err)
			}
		}
	}
}

// P1.1: within a word, no error is still none.
func TestInOfNilIsNil(t *testing.T) {
	for _, err := range []error{oops.In("net", nil), oops.In("", nil), oops.In("a", oops.In("b", nil)), oops.In("a", oops.New(api.OK, 3))} {
		if err != nil {
			t.Errorf("In of nil is %#v", err)
		}
	}
}

// P1.1: Unwrap answers the number itself, and the very error.
func TestUnwrap(t *testing.T) {
	for _, code := range append(numbers(), api.OK) {
		got, ok := (&oops.Fault{Code: code, At: 3}).Unwrap().(api.Errno)
		if !ok || got != code {
			t.Errorf("Unwrap of a fault of %d is %v, %v", code, got, ok)
		}
	}
	inner := errors.New("else")
	if got := (&oops.Place{Word: "a", Err: inner}).Unwrap(); got == nil || got != inner {
		t.Errorf("Unwrap of a place is %v", got)
	}
	if got := (&oops.Place{Word: "a"}).Unwrap(); got != nil {
		t.Errorf("Unwrap of a place without an error is %v", got)
	}
}

// P1.1: the texts.
func TestTexts(t *testing.T) {
	fault := oops.New(api.ErrForm, 7)
	rows := []struct {
		err  error
		want string
	}{
		{fault, "error 4 at 7"},
		{oops.New(api.ErrNil, 0), "error 1 at 0"},
		{oops.New(api.ErrOther, -1), "error 20 at -1"},
		{oops.New(api.ErrMany, -120), "error 6 at -120"},
		{oops.New(-3, math.MinInt64), "error -3 at -9223372036854775808"},
		{oops.New(99, math.MaxInt64), "error 99 at 9223372036854775807"},
		{&oops.Fault{}, "error 0 at 0"},
		{oops.In("net", fault), "net: error 4 at 7"},
		{oops.In("", fault), ": error 4 at 7"},
		{oops.In("a", oops.In("b", oops.In("c", fault))), "a: b: c: error 4 at 7"},
		{oops.In("a", errors.New("else")), "a: else"},
		{oops.In("a", api.ErrDeep), "a: error 8"},
		{oops.In("a", foreign{oops.In("b", fault)}), "a: foreign of b: error 4 at 7"},
		{&oops.Place{Word: "a"}, "a: "},
	}
	for _, r := range rows {
		check(t, "text", r.err.Error(), r.want)
	}
}

// P1.2: an error's number: its own, OK of nil, ErrOther of somebody else's.
func TestCode(t *testing.T) {
	check(t, "nil", oops.Code(nil), api.OK)
	for _, code := range numbers() {
		check(t, "fault", oops.Code(oops.New(code, 5)), code)
		check(t, "number alone", oops.Code(code), code)
		check(t, "within", oops.Code(oops.In("a", oops.In("b", oops.New(code, 5)))), code)
		check(t, "within a foreign one", oops.Code(foreign{oops.In("a", foreign{oops.New(code, 5)})}), code)
	}
	check(t, "fault of OK", oops.Code(&oops.Fault{Code: api.OK, At: 5}), api.OK)
	check(t, "joined", oops.Code(errors.Join(errors.New("else"), oops.New(api.ErrDeep, 5))), api.ErrDeep)
	for _, err := range foreigners() {
		check(t, "foreign", oops.Code(err), api.ErrOther)
	}
}

// foreigners: errors that have no number.
func foreigners() []error {
	return []error{
		errors.New("else"),
		errors.New("error 4 at 7"),
		foreign{},
		foreign{errors.New("else")},
		unlike{1},
		oops.In("a", errors.New("else")),
		oops.In("a", oops.In("b", foreign{})),
		&oops.Place{Word: "a"},
	}
}

// P1.2: an error has its number, and no other one; nil has none, not even OK.
func TestIs(t *testing.T) {
	all := append(numbers(), api.OK)
	for _, code := range numbers() {
		for _, other := range all {
			same := code == other
			check(t, "fault", oops.Is(oops.New(code, 5), other), same)
			check(t, "number alone", oops.Is(code, other), same)
			check(t, "within", oops.Is(oops.In("a", foreign{oops.New(code, 5)}), other), same)
		}
	}
	for _, other := range all {
		check(t, "nil", oops.Is(nil, other), false)
		check(t, "fault of OK", oops.Is(&oops.Fault{}, other), other == api.OK)
		for _, err := range foreigners() {
			check(t, "foreign "+err.Error(), oops.Is(err, other), false)
		}
	}
}

// P1.2: Is looks at all that is joined, not at the first number alone.
func TestIsOfJoined(t *testing.T) {
	both := errors.Join(oops.New(api.ErrForm, 1), oops.New(api.ErrMany, 2))
	check(t, "first", oops.Is(both, api.ErrForm), true)
	check(t, "second", oops.Is(both, api.ErrMany), true)
	check(t, "neither", oops.Is(both, api.ErrDeep), false)
}

// P1.2: the place of the first fault; -1, where there is none.
func TestAt(t *testing.T) {
	check(t, "nil", oops.At(nil), -1)
	check(t, "number alone", oops.At(api.ErrForm), -1)
	for _, err := range foreigners() {
		check(t, "foreign", oops.At(err), -1)
	}
	for _, at := range []int{0, 1, 7, -1, -12, math.MaxInt, math.MinInt} {
		fault := oops.New(api.ErrForm, at)
		check(t, "fault", oops.At(fault), at)
		check(t, "within", oops.At(oops.In("a", oops.In("b", fault))), at)
		check(t, "within a foreign one", oops.At(foreign{oops.In("a", foreign{fault})}), at)
		check(t, "fault of OK", oops.At(&oops.Fault{At: at}), at)
	}
	check(t, "joined", oops.At(errors.Join(errors.New("else"), oops.New(api.ErrForm, 3), oops.New(api.ErrForm, 4))), 3)
}

// P1.2: all words, the outermost first, whatever stands between.
func TestWords(t *testing.T) {
	fault := oops.New(api.ErrForm, 7)
	checkWords(t, "nil", nil)
	checkWords(t, "fault", fault)
	checkWords(t, "number alone", api.ErrForm)
	checkWords(t, "foreign", foreign{fault})
	checkWords(t, "one", oops.In("net", fault), "net")
	checkWords(t, "three", oops.In("a", oops.In("b", oops.In("c", fault))), "a", "b", "c")
	checkWords(t, "one word twice", oops.In("a", oops.In("a", fault)), "a", "a")
	checkWords(t, "empty words", oops.In("", oops.In("b", oops.In("", fault))), "", "b", "")
	checkWords(t, "around somebody else's", oops.In("a", errors.New("else")), "a")
	checkWords(t, "around nothing", &oops.Place{Word: "a"}, "a")
	checkWords(t, "between foreign ones", foreign{oops.In("a", foreign{foreign{oops.In("b", foreign{fault})}})}, "a", "b")
}

// P1.2: the words that were told are the asker's own.
func TestWordsAreNewEachTime(t *testing.T) {
	err := oops.In("a", oops.In("b", oops.New(api.ErrForm, 7)))
	l := oops.Words(err)
	l[0], l[1] = "x", "y"
	_ = append(l[:0], "z")
	checkWords(t, "asked again", err, "a", "b")
	check(t, "text", err.Error(), "a: b: error 4 at 7")
}

// P1.2: Same holds number, place and words against each other, each.
func TestSame(t *testing.T) {
	fault := func() error { return oops.New(api.ErrForm, 7) }
	// each differs from each other one in just what Same looks at
	unlikes := []error{
		nil,
		fault(),
		oops.New(api.ErrMany, 7),
		oops.New(api.ErrForm, 8),
		oops.New(api.ErrForm, -7),
		&oops.Fault{Code: api.OK, At: 7},
		&oops.Fault{Code: api.OK, At: -1},
		api.ErrForm,
		errors.New("else"),
		oops.In("a", fault()),
		oops.In("b", fault()),
		oops.In("", fault()),
		oops.In("a", oops.New(api.ErrMany, 7)),
		oops.In("a", oops.New(api.ErrForm, 8)),
		oops.In("a", oops.In("b", fault())),
		oops.In("b", oops.In("a", fault())),
		oops.In("a: b", fault()),
		oops.In("a", errors.New("else")),
	}
	for i, a := range unlikes {
		for j, b := range unlikes {
			check(t, "same of "+strconv.Itoa(i)+" and "+strconv.Itoa(j), oops.Same(a, b), i == j)
		}
	}
}

// P1.2: what Same doesn't look at makes no difference.
func TestSameOfOthersThatTellTheSame(t *testing.T) {
	fault := func() error { return oops.New(api.ErrForm, 7) }
	check(t, "made twice", oops.Same(oops.In("a", fault()), oops.In("a", fault())), true)
	check(t, "foreign ones between", oops.Same(oops.In("a", fault()), foreign{oops.In("a", foreign{fault()})}), true)
	check(t, "somebody else's", oops.Same(errors.New("x"), errors.New("y")), true)
	check(t, "that can't be compared", oops.Same(unlike{1}, unlike{2}), true)
	check(t, "the number ErrOther", oops.Same(api.ErrOther, errors.New("x")), true)
	check(t, "at -1", oops.Same(oops.New(api.ErrForm, -1), api.ErrForm), true)
}

// P1.3: however often it is wrapped, an error's number is found, and no other.
func TestDeeplyWrapped(t *testing.T) {
	for _, depth := range []int{0, 1, 2, 3, 10, 100, 1000} {
		for _, code := range numbers() {
			err := wrapped(oops.New(code, 7), depth)
			for _, other := range append(numbers(), api.OK) {
				check(t, "errors.Is at "+strconv.Itoa(depth), errors.Is(err, other), code == other)
			}
		}
	}
}

// P1.3, and P1 of all: at the greatest depth all calls end, and tell the same.
func TestDeepest(t *testing.T) {
	err := wrapped(oops.New(api.ErrDeep, 9), deepest)
	check(t, "is", errors.Is(err, api.ErrDeep) && oops.Is(err, api.ErrDeep), true)
	check(t, "is another", errors.Is(err, api.ErrMany) || oops.Is(err, api.ErrMany), false)
	check(t, "code", oops.Code(err), api.ErrDeep)
	check(t, "at", oops.At(err), 9)
	words := oops.Words(err)
	check(t, "words", len(words), deepest)
	check(t, "first", words[0], "w"+strconv.Itoa(deepest-1))
	check(t, "last", words[deepest-1], "w0")
	check(t, "text", err.Error(), strings.Join(words, ": ")+": error 8 at 9")
	check(t, "same", oops.Same(err, wrapped(oops.New(api.ErrDeep, 9), deepest)), true)
	check(t, "same as a less deep one", oops.Same(err, wrapped(oops.New(api.ErrDeep, 9), deepest-1)), false)
}

// wrapped: an error within so many words, each with its number.
func wrapped(err error, depth int) error {
	for i := range depth {
		err = oops.In("w"+strconv.Itoa(i), err)
	}
	return err
}

// Of nil pointers nothing is promised; still they bring nobody down.
func TestNilPointersDontPanic(t *testing.T) {
	for _, err := range []error{(*oops.Fault)(nil), (*oops.Place)(nil), oops.In("a", (*oops.Fault)(nil)), oops.In("a", (*oops.Place)(nil))} {
		_ = err.Error()
		check(t, "code", oops.Code(err), api.ErrOther)
		check(t, "is", oops.Is(err, api.ErrNil), false)
		check(t, "at", oops.At(err), -1)
		_ = oops.Words(err)
		check(t, "same", oops.Same(err, err), true)
	}
}
