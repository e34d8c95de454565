package scan_test

import (
	"strconv"
	"strings"
	"testing"

	"fairlead/api"
	"fairlead/oops"
	"fairlead/scan"
)

const (
	blanks  = " \t\n\r"
	letters = "abcdefghijklmnopqrstuvwxyzABCDEFGHIJKLMNOPQRSTUVWXYZ_"
	digits  = "0123456789"
	joints  = "-."
)

func check[T comparable](t *testing.T, what string, got, want T) {
	t.Helper()
	if got != want {
		t.Errorf("%s: got %v, want %v", what, got, want)
	}
}

// checkFault: is it just a fault of both, within no words? OK is no error.
func checkFault(t *testing.T, what string, err error, code api.Errno, at int) {
	t.Helper()
	if code == api.OK {
		if err != nil {
			t.Errorf("%s: %v, want no error", what, err)
		}
		return
	}
	f, ok := err.(*oops.Fault)
	if !ok || f == nil {
		t.Errorf("%s: %v is no fault, want %d at %d", what, err, code, at)
		return
	}
	check(t, what, *f, oops.Fault{Code: code, At: at})
}

// start: the beginning of a text that isn't too long.
func start(t *testing.T, text string) scan.Scan {
	t.Helper()
	c, err := scan.New(text)
	if err != nil {
		t.Fatalf("New of %d bytes: %v", len(text), err)
	}
	return c
}

// behind: the place behind what stands at a text's beginning.
func behind(t *testing.T, gone, rest string) scan.Scan {
	t.Helper()
	c, ok := start(t, gone+rest).Has(gone)
	if !ok {
		t.Fatalf("Has doesn't find %q", short(gone))
	}
	return c
}

// checkScan: does it stand behind that, and ahead of the rest?
func checkScan(t *testing.T, what string, c scan.Scan, at int, rest string) {
	t.Helper()
	check(t, what+": place", c.At(), at)
	check(t, what+": rest", c.Rest(), rest)
	check(t, what+": end", c.End(), rest == "")
	first := byte(0)
	if rest != "" {
		first = rest[0]
	}
	check(t, what+": peek", c.Peek(), first)
}

func short(s string) string {
	if len(s) <= 40 {
		return s
	}
	return s[:40] + ".. of " + strconv.Itoa(len(s))
}

func bytesOf(n int) string { return string([]byte{byte(n)}) }

// P3.1: the beginning of a text, whatever its bytes are.
func TestNew(t *testing.T) {
	for _, text := range []string{"", "a", " ", "\x00", "\xff\xfe", "ab c\n", "\u00e9", strings.Repeat("x", 65535), strings.Repeat("x", 65536)} {
		checkScan(t, "New "+short(text), start(t, text), 0, text)
	}
}

// P3.1: of a text of more than MaxText bytes there is no beginning.
func TestNewOfTooLong(t *testing.T) {
	for _, n := range []int{65537, 65538, 200000} {
		c, err := scan.New(strings.Repeat("x", n))
		checkFault(t, strconv.Itoa(n)+" bytes", err, api.ErrLong, 65536)
		checkScan(t, "beside the error", c, 0, "")
		check(t, "zero beside the error", c, scan.Scan{})
	}
	_, err := scan.New(strings.Repeat("\u00e9", 32769)) // bytes are counted, not signs
	checkFault(t, "65538 bytes of two each", err, api.ErrLong, 65536)
}

// P3.1: At, End, Rest, Peek at each place of a text, behind the last byte too.
func TestEachPlace(t *testing.T) {
	text := "a 1\x00\xff-\u00e9\n"
	c := start(t, text)
	for i := range len(text) {
		checkScan(t, "at "+strconv.Itoa(i), c, i, text[i:])
		next, err := c.Take(text[i])
		checkFault(t, "taking", err, api.OK, 0)
		c = next
	}
	checkScan(t, "behind the last byte", c, len(text), "")
}

// P3.1: Peek tells a nought byte and the end alike; End tells them apart.
func TestPeekOfNought(t *testing.T) {
	c := start(t, "\x00")
	check(t, "nought", c.Peek(), 0)
	check(t, "end", c.End(), false)
	c, _ = c.Take(0)
	check(t, "behind it", c.Peek(), 0)
	check(t, "end behind it", c.End(), true)
}

// P3.1: behind all blanks, and none but blanks.
func TestSkip(t *testing.T) {
	rows := []struct {
		gone, rest string
	}{
		{"", ""},
		{"", "a b"},
		{" ", ""},
		{" ", "a b "},
		{"\t", "a"},
		{"\n", "a"},
		{"\r", "a"},
		{" \t\r\n\n  ", "a \t"},
		{"  ", "\v "},
		{"\t", "\f"},
		{" ", "\x00 "},
		{"", "\u00a0 "},
		{" ", "\x85"},
		{strings.Repeat(" ", 65535), ""},
		{strings.Repeat("\n", 65534), "x"},
	}
	for _, r := range rows {
		c := start(t, r.gone+r.rest).Skip()
		checkScan(t, "Skip "+short(r.gone), c, len(r.gone), r.rest)
		checkScan(t, "Skip behind x", behind(t, "x", r.gone+r.rest).Skip(), 1+len(r.gone), r.rest)
		check(t, "skipping twice", c.Skip(), c)
	}
}

// P3.1: just four bytes are blanks.
func TestBlanks(t *testing.T) {
	for b := range 256 {
		want := 0
		if strings.IndexByte(blanks, byte(b)) >= 0 {
			want = 1
		}
		check(t, "Skip of byte "+strconv.Itoa(b), start(t, bytesOf(b)+"x").Skip().At(), want)
	}
}

// P3.2: Take goes behind just that byte.
func TestTake(t *testing.T) {
	for b := range 256 {
		text := bytesOf(b) + "z"
		next, err := start(t, text).Take(byte(b))
		checkFault(t, "Take", err, api.OK, 0)
		checkScan(t, "behind it", next, 1, "z")
		here := behind(t, "ab", text)
		next, err = here.Take(byte(b) ^ 1)
		checkFault(t, "another byte", err, api.ErrForm, 2)
		check(t, "as it was", next, here)
	}
}

// P3.2: Take, where the text ends, also of a nought byte, which Peek tells there.
func TestTakeAtEnd(t *testing.T) {
	for _, text := range []string{"", "a", strings.Repeat("a", 65536)} {
		end := behind(t, text, "")
		for _, b := range []byte{0, 'a', 255} {
			next, err := end.Take(b)
			checkFault(t, "Take at the end", err, api.ErrShort, len(text))
			check(t, "as it was", next, end)
		}
	}
}

// P3.2: Has goes behind a text that stands there, none too.
func TestHas(t *testing.T) {
	rows := []struct {
		gone, rest, word string
		there            bool
	}{
		{"", "", "", true},
		{"", "abc", "", true},
		{"", "abc", "a", true},
		{"", "abc", "abc", true},
		{"", "abc", "abcd", false},
		{"", "abc", "b", false},
		{"", "abc", "abd", false},
		{"", "abc", "A", false},
		{"", "", "a", false},
		{"ab", "cab", "ca", true},
		{"ab", "cab", "ab", false},
		{"ab", "", "", true},
		{"ab", "", "b", false},
		{"a", "\x00b", "\x00", true},
		{"", "\u00e9", "\xc3", true},
		{"", " a", "a", false},
		{"", "abc", strings.Repeat("abc", 40000), false},
	}
	for _, r := range rows {
		here := behind(t, r.gone, r.rest)
		next, ok := here.Has(r.word)
		check(t, "Has "+short(r.word), ok, r.there)
		if r.there {
			checkScan(t, "behind "+r.word, next, len(r.gone)+len(r.word), r.rest[len(r.word):])
		} else {
			check(t, "as it was", next, here)
		}
	}
}

// P3.2: a name goes on as long as there are bytes of names.
func TestName(t *testing.T) {
	rows := []struct {
		gone, name, rest string
	}{
		{"", "a", ""},
		{"", "_", ""},
		{"", "Z", " b"},
		{"", "ab-1", " c"},
		{"", "a.b.c", ",d"},
		{"", "_1", "\x00"},
		{"", "a-", ""},
		{"", "a..--__99", "+"},
		{"12", "x9", "/y"},
		{"  ", "r0", ""},
		{"-", "a", "\u00e9"},
		{"", "a" + strings.Repeat("1", 31), ""},
		{"b ", strings.Repeat("a", 32), " " + strings.Repeat("a", 33)},
	}
	for _, r := range rows {
		next, name, err := behind(t, r.gone, r.name+r.rest).Name()
		checkFault(t, "Name "+r.name, err, api.OK, 0)
		check(t, "name", name, r.name)
		checkScan(t, "behind "+r.name, next, len(r.gone)+len(r.name), r.rest)
	}
}

// P3.2: where no name stands, or one that is too long, the scan is as it was.
func TestNameErrors(t *testing.T) {
	rows := []struct {
		gone, rest string
		code       api.Errno
	}{
		{"", "", api.ErrShort},
		{"abc", "", api.ErrShort},
		{"", " a", api.ErrForm},
		{"", "1a", api.ErrForm},
		{"a", "-a", api.ErrForm},
		{"ab", ".a", api.ErrForm},
		{"", "\x00", api.ErrForm},
		{"", "\u00e9", api.ErrForm},
		{"", strings.Repeat("a", 33), api.ErrLong},
		{"x ", strings.Repeat("a", 33) + " b", api.ErrLong},
		{"", "a" + strings.Repeat("-", 32), api.ErrLong},
		{"", strings.Repeat("a", 65536), api.ErrLong},
		{"", "1" + strings.Repeat("a", 33), api.ErrForm},
	}
	for _, r := range rows {
		here := behind(t, r.gone, r.rest)
		next, name, err := here.Name()
		checkFault(t, "Name of "+short(r.rest), err, r.code, len(r.gone))
		check(t, "name beside the error", name, "")
		check(t, "as it was", next, here)
	}
}

// P3.2: which bytes begin a name, and with which it goes on.
func TestNameBytes(t *testing.T) {
	for b := range 256 {
		one := bytesOf(b)
		begins := strings.Contains(letters, one)
		goesOn := strings.Contains(letters+digits+joints, one)
		check(t, "begins with byte "+strconv.Itoa(b), scan.IsName(one), begins)
		check(t, "goes on with byte "+strconv.Itoa(b), scan.IsName("a"+one), goesOn)
		_, _, err := start(t, one).Name()
		check(t, "Name of byte "+strconv.Itoa(b), err == nil, begins)
		_, name, _ := start(t, "a"+one).Name()
		check(t, "Name on byte "+strconv.Itoa(b), len(name) == 2, goesOn)
	}
}

// P3.2: all digits, and their amount.
func TestNumber(t *testing.T) {
	rows := []struct {
		gone, digits, rest string
		want               uint64
	}{
		{"", "0", "", 0},
		{"", "0", " 7", 0},
		{"", "7", "", 7},
		{"", "10", "x", 10},
		{"a", "1203", "-4", 1203},
		{"00", "9", "", 9},
		{"", "65536", ".5", 65536},
		{"", "9223372036854775806", "", api.MaxCost - 1},
		{" ", "9223372036854775807", "+", api.MaxCost},
		{"", "12", "\xd9\xa3", 12}, // a digit of another script
	}
	for _, r := range rows {
		// the digits may come behind others, so the place is gone to by bytes
		next, n, err := behind(t, r.gone, r.digits+r.rest).Number()
		checkFault(t, "Number "+r.digits, err, api.OK, 0)
		check(t, "number", n, r.want)
		checkScan(t, "behind "+r.digits, next, len(r.gone)+len(r.digits), r.rest)
	}
}

// P3.2: where no number stands, the scan is as it was, and the place is that
// where the digits begin, or should.
func TestNumberErrors(t *testing.T) {
	rows := []struct {
		gone, rest string
		code       api.Errno
	}{
		{"", "", api.ErrShort},
		{"12", "", api.ErrShort},
		{"", "x", api.ErrForm},
		{"", " 1", api.ErrForm},
		{"1", "-1", api.ErrForm},
		{"", "+1", api.ErrForm},
		{"", "/", api.ErrForm},
		{"", ":", api.ErrForm},
		{"", "\x00", api.ErrForm},
		{"", "07", api.ErrForm},
		{"abc", "07", api.ErrForm},
		{"abc", "00 ", api.ErrForm},
		{"", "09223372036854775808", api.ErrForm},
		{"", "9223372036854775808", api.ErrRange},
		{"ab ", "9223372036854775808x", api.ErrRange},
		{"", "18446744073709551617", api.ErrRange},
		{"", strings.Repeat("1", 65536), api.ErrRange},
		{"xy", strings.Repeat("0", 65534), api.ErrForm},
	}
	for _, r := range rows {
		here := behind(t, r.gone, r.rest)
		next, n, err := here.Number()
		checkFault(t, "Number of "+short(r.rest), err, r.code, len(r.gone))
		check(t, "number beside the error", n, 0)
		check(t, "as it was", next, here)
	}
}

// P3.2: just the ten digits are digits.
func TestDigits(t *testing.T) {
	for b := range 256 {
		_, n, err := start(t, bytesOf(b)).Number()
		digit := strings.IndexByte(digits, byte(b))
		if digit < 0 {
			checkFault(t, "Number of byte "+strconv.Itoa(b), err, api.ErrForm, 0)
			continue
		}
		checkFault(t, "Number of a digit", err, api.OK, 0)
		check(t, "digit", n, uint64(digit))
	}
}

// P3.2: IsName holds of names as they are, and whole.
func TestIsName(t *testing.T) {
	for _, s := range []string{"a", "_", "ab-1", "A.b_c-9", "x" + strings.Repeat(".", 31)} {
		check(t, "IsName "+s, scan.IsName(s), true)
	}
	wrong := []string{"", " ", "1", "-a", ".a", "a b", " a", "a ", "a\n", "a\x00", "a,b", "a\u00e9", "\u00e9",
		strings.Repeat("a", 33), strings.Repeat("a", 65536), strings.Repeat("a", 65537), strings.Repeat("a", 32) + " "}
	for _, s := range wrong {
		check(t, "IsName "+short(s), scan.IsName(s), false)
	}
}

// P3.3: what was gone by, and the rest, come to the text, whatever is asked.
func TestGoneAndRestAreTheText(t *testing.T) {
	texts := []string{"", "ab-1 c", "07", " \t12,x\x00", "<a b*> 3\r\n", strings.Repeat("a", 40) + " 99999999999999999999 b"}
	for _, text := range texts {
		walk(t, text, start(t, text))
	}
}

// walk: goes on by all that may be asked at a place, a byte at least each time.
func walk(t *testing.T, text string, c scan.Scan) {
	t.Helper()
	for !c.End() {
		byName, _, _ := c.Name()
		byNumber, _, _ := c.Number()
		byByte, _ := c.Take(c.Peek())
		byWord, _ := c.Has(text[c.At():][:1])
		for _, next := range []scan.Scan{c, c.Skip(), byName, byNumber, byByte, byWord} {
			check(t, "text", text[:next.At()]+next.Rest(), text)
		}
		c = byByte
	}
}

// A scan stays where it is, whatever is asked of it.
func TestScansStay(t *testing.T) {
	c := behind(t, "x", " ab 12")
	c.Skip()
	c.Take(' ')
	c.Has(" ab")
	c.Skip().Name()
	c.Number()
	checkScan(t, "as it was", c, 1, " ab 12")
}
