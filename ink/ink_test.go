package ink_test

import (
	"encoding/json"
	"slices"
	"sort"
	"strconv"
	"strings"
	"testing"

	"fairlead/api"
	"fairlead/ink"
	"fairlead/oops"
	"fairlead/tree"
)

// deepest is how far DOC.md lets parts be nested in one another.
const deepest = 1 << 16

func check[T comparable](t *testing.T, what string, got, want T) {
	t.Helper()
	if got != want {
		t.Errorf("%s: got %v, want %v", what, got, want)
	}
}

// checkError: is it that number at 0, within just these words? OK is no error.
func checkError(t *testing.T, what string, err error, code api.Errno, words ...string) {
	t.Helper()
	if code == api.OK {
		if err != nil {
			t.Errorf("%s: %v, want no error", what, err)
		}
		return
	}
	want := oops.New(code, 0)
	for _, word := range slices.Backward(words) {
		want = oops.In(word, want)
	}
	if err == nil || !oops.Same(err, want) || err.Error() != want.Error() {
		t.Errorf("%s: %v, want %v", what, err, want)
	}
}

// like: are both the same in every field, a list of none being nil or empty?
func like(a, b tree.Value) bool {
	return a.Kind == b.Kind && a.Text == b.Text && a.Num == b.Num && a.At == b.At &&
		slices.Equal(a.Keys, b.Keys) && slices.EqualFunc(a.List, b.List, like)
}

func checkValue(t *testing.T, what string, got, want tree.Value) {
	t.Helper()
	if !like(got, want) {
		t.Errorf("%s: got %+v, want %+v", what, got, want)
	}
}

func parsed(t *testing.T, text string) tree.Value {
	t.Helper()
	v, err := tree.Parse(text)
	if err != nil {
		t.Fatalf("Parse(%q): %v", text, err)
	}
	return v
}

func kind(k int) tree.Value { return tree.Value{Kind: k} }

func num(n uint64) tree.Value { return tree.Value{Kind: tree.Number, Num: n} }

func textOf(s string) tree.Value { return tree.Value{Kind: tree.Text, Text: s} }

func array(l ...tree.Value) tree.Value { return tree.Value{Kind: tree.Array, List: l} }

// object: of these keys, with values in their order.
func object(keys []string, l ...tree.Value) tree.Value {
	return tree.Value{Kind: tree.Object, Keys: keys, List: l}
}

func keys(l ...string) []string { return l }

// inArrays, inObjects: a value within so many, the objects with the key "a".
func inArrays(v tree.Value, deep int) tree.Value {
	for range deep {
		v = array(v)
	}
	return v
}

func inObjects(v tree.Value, deep int) tree.Value {
	for range deep {
		v = object(keys("a"), v)
	}
	return v
}

// odd: a value of a kind that has all fields, those of other kinds too.
func odd(k int) tree.Value {
	return tree.Value{Kind: k, Text: "t\x00", Num: 1 << 63, List: []tree.Value{kind(7)}, Keys: keys("k\x00", "k"), At: 3}
}

// sharp: one of each kind with fields of its kind that may be, and others that
// may not be in their own kind.
func sharp(k int) tree.Value {
	v := odd(k)
	switch k {
	case tree.Number:
		v.Num = 5
	case tree.Text:
		v.Text = "t"
	case tree.Array:
		v.List = []tree.Value{num(1)}
	case tree.Object:
		v.List, v.Keys = []tree.Value{num(1)}, keys("k")
	}
	return v
}

// P6.1: what may be written, and its text.
func TestText(t *testing.T) {
	rows := []struct {
		v    tree.Value
		want string
	}{
		{tree.Value{}, "null"},
		{kind(tree.False), "false"},
		{kind(tree.True), "true"},
		{num(0), "0"},
		{num(7), "7"},
		{num(1203), "1203"},
		{num(api.MaxCost), "9223372036854775807"},
		{textOf(""), `""`},
		{textOf("a b"), `"a b"`},
		{textOf(" !~/'[],"), `" !~/'[],"`},
		{textOf("a\"b\\c\nd"), `"a\"b\\c\nd"`},
		{array(), "[]"},
		{array(num(1)), "[1]"},
		{array(num(1), textOf("a"), kind(tree.Null), array(), object(nil)), `[1,"a",null,[],{}]`},
		{object(nil), "{}"},
		{object(keys("a"), kind(tree.True)), `{"a":true}`},
		{object(keys("b", "a", ""), num(2), array(num(1), num(0)), textOf("")), `{"b":2,"a":[1,0],"":""}`},
		{object(keys("a\"b\\c\nd"), object(keys("a\"b\\c\nd"), kind(tree.False))), `{"a\"b\\c\nd":{"a\"b\\c\nd":false}}`},
		{array(array(array()), array()), "[[[]],[]]"},
	}
	for _, r := range rows {
		checkText(t, r.v, r.want)
	}
}

func checkText(t *testing.T, v tree.Value, want string) {
	t.Helper()
	checkError(t, "Check of "+want, ink.Check(v), api.OK)
	got, err := ink.Text(v)
	checkError(t, "Text of "+want, err, api.OK)
	check(t, "Text", got, want)
}

// P6.1: places, and fields that aren't of the kind, make no difference.
func TestTextOfOddFields(t *testing.T) {
	want := []string{"null", "false", "true", "5", `"t"`, "[1]", `{"k":1}`}
	for k := range 7 {
		checkText(t, sharp(k), want[k])
		checkText(t, array(sharp(k)), "["+want[k]+"]")
		checkText(t, object(keys("x"), sharp(k)), `{"x":`+want[k]+"}")
	}
}

// P6.1: a text that is longer than one that is read may be written.
func TestTextOfLong(t *testing.T) {
	long := strings.Repeat("a", 100000)
	checkText(t, textOf(long), `"`+long+`"`)
	checkText(t, object(keys(long), num(1)), `{"`+long+`":1}`)
}

// checkFlaw: does Check tell it of a value, and of what has the value within,
// and Text the same beside no text?
func checkFlaw(t *testing.T, what string, v tree.Value, code api.Errno, words ...string) {
	t.Helper()
	whole := []struct {
		v     tree.Value
		words []string
	}{
		{v, words},
		{array(v), append(keys("0"), words...)},
		{array(num(1), array(), v, kind(9)), append(keys("2"), words...)},
		{object(keys("x"), v), append(keys("x"), words...)},
		{object(keys("y", "", "z"), num(1), v, kind(9)), append(keys(""), words...)},
		{array(object(keys("a", "b"), num(1), array(num(1), v))), append(keys("0", "b", "1"), words...)},
		{object(keys("a", "b"), num(1), array(num(1), object(keys("c"), v))), append(keys("b", "1", "c"), words...)},
	}
	for i, w := range whole {
		name := what + ", within the " + strconv.Itoa(i) + "th"
		checkError(t, name, ink.Check(w.v), code, w.words...)
		got, err := ink.Text(w.v)
		checkError(t, "Text: "+name, err, code, w.words...)
		check(t, "text beside the error", got, "")
	}
}

// P6.1: kinds that there aren't.
func TestErrKind(t *testing.T) {
	for _, k := range []int{-1, 7, 8, 255, 256, -1 << 63, 1<<63 - 1} {
		checkFlaw(t, "kind "+strconv.Itoa(k), kind(k), api.ErrKind)
		checkFlaw(t, "odd kind "+strconv.Itoa(k), odd(k), api.ErrKind)
	}
}

// P6.1: numbers above MaxCost.
func TestErrRange(t *testing.T) {
	for _, n := range []uint64{api.MaxCost + 1, api.MaxCost + 2, 1<<64 - 1} {
		checkFlaw(t, "number "+strconv.FormatUint(n, 10), num(n), api.ErrRange)
	}
}

// P6.1: each byte that a text, and a key, may not have.
func TestErrFormOfEachByte(t *testing.T) {
	for b := range 256 {
		one := string([]byte{byte(b)})
		if b >= 32 && b <= 126 || b == 10 {
			checkError(t, "text of "+strconv.Quote(one), ink.Check(textOf(one)), api.OK)
			checkError(t, "key of "+strconv.Quote(one), ink.Check(object(keys(one), num(1))), api.OK)
			continue
		}
		for _, s := range []string{one, "a" + one, one + "a", "a" + one + "a"} {
			checkFlaw(t, "text "+strconv.Quote(s), textOf(s), api.ErrForm)
			checkFlaw(t, "key "+strconv.Quote(s), object(keys(s), num(1)), api.ErrForm, s)
		}
	}
}

// P6.1: objects with fewer keys than values, and with more.
func TestErrLack(t *testing.T) {
	rows := []tree.Value{
		object(nil, num(1)),
		object(keys("a")),
		object(keys("a"), num(1), num(2)),
		object(keys("a", "b"), num(1)),
		object(keys("a", "a"), num(1)),
		object(keys("\x00"), num(1), num(2)),
		object(keys("a"), kind(9), num(2)),
		object(nil, kind(9)),
	}
	for i, v := range rows {
		checkFlaw(t, "uneven object "+strconv.Itoa(i), v, api.ErrLack)
	}
}

// P6.1: keys that may not be, and that come twice, ahead of their values.
func TestErrorsOfKeys(t *testing.T) {
	rows := []struct {
		v     tree.Value
		code  api.Errno
		words []string
	}{
		{object(keys("a", "a"), num(1), num(2)), api.ErrTwice, keys("a")},
		{object(keys("", ""), num(1), num(2)), api.ErrTwice, keys("")},
		{object(keys("a", "b", "a"), num(1), num(2), num(3)), api.ErrTwice, keys("a")},
		{object(keys("b", "a", "a"), num(1), num(2), kind(9)), api.ErrTwice, keys("a")},
		{object(keys("\n", "\n"), num(1), num(2)), api.ErrTwice, keys("\n")},
		{object(keys("\x00", "\x00"), num(1), num(2)), api.ErrForm, keys("\x00")},
		{object(keys("a", "\x00"), num(1), kind(9)), api.ErrForm, keys("\x00")},
		{object(keys("\x00"), kind(9)), api.ErrForm, keys("\x00")},
		{object(keys("a", "\x00"), kind(9), num(1)), api.ErrKind, keys("a")},
		{object(keys("a", "a"), kind(9), num(1)), api.ErrKind, keys("a")},
		{object(keys("a", "a", "\x00"), num(1), num(2), num(3)), api.ErrTwice, keys("a")},
		{object(keys("a", "\x00", "a"), num(1), num(2), num(3)), api.ErrForm, keys("\x00")},
	}
	for i, r := range rows {
		checkFlaw(t, "object "+strconv.Itoa(i), r.v, r.code, r.words...)
	}
	one := object(keys("a"), num(1))
	checkText(t, object(keys("a", "b"), one, one), `{"a":{"a":1},"b":{"a":1}}`)
	checkText(t, object(keys("a", "A", " a", "a "), num(1), num(2), num(3), num(4)), `{"a":1,"A":2," a":3,"a ":4}`)
}

// P6.1: at most 64 arrays and objects within one another.
func TestErrDeep(t *testing.T) {
	checkText(t, inArrays(array(), 63), strings.Repeat("[", 64)+strings.Repeat("]", 64))
	checkText(t, inArrays(num(1), 64), strings.Repeat("[", 64)+"1"+strings.Repeat("]", 64))
	checkText(t, inObjects(object(nil), 63), strings.Repeat(`{"a":`, 63)+"{}"+strings.Repeat("}", 63))
	rows := []struct {
		v    tree.Value
		word string
	}{
		{inArrays(array(), 64), "0"},
		{inArrays(num(1), 65), "0"},
		{inArrays(kind(9), 65), "0"},
		{inArrays(array(), deepest), "0"},
		{inArrays(object(keys("a", "b"), num(1)), 64), "0"}, // uneven, too
		{inObjects(object(nil), 64), "a"},
		{inObjects(array(kind(9)), 64), "a"},
		{inObjects(object(keys("\x00"), num(1)), 64), "a"},
	}
	for i, r := range rows {
		words := slices.Repeat(keys(r.word), 64)
		checkError(t, "deep value "+strconv.Itoa(i), ink.Check(r.v), api.ErrDeep, words...)
		got, err := ink.Text(r.v)
		checkError(t, "Text of deep value "+strconv.Itoa(i), err, api.ErrDeep, words...)
		check(t, "text beside the error", got, "")
	}
	beside := array(num(1), inArrays(array(), 63), kind(9))
	checkError(t, "behind another", ink.Check(beside), api.ErrDeep, append(keys("1"), slices.Repeat(keys("0"), 63)...)...)
	checkError(t, "no array at that depth", ink.Check(inArrays(kind(9), 64)), api.ErrKind, slices.Repeat(keys("0"), 64)...)
}

// P6.1: of several errors the first is told, what is within a value ahead of
// what stands behind it.
func TestFirstErrorIsTold(t *testing.T) {
	rows := []struct {
		v     tree.Value
		code  api.Errno
		words []string
	}{
		{array(kind(9), num(1<<63)), api.ErrKind, keys("0")},
		{array(num(1<<63), kind(9)), api.ErrRange, keys("0")},
		{array(array(num(1), textOf("\x00")), kind(9)), api.ErrForm, keys("0", "1")},
		{object(keys("a", "b"), array(num(1), kind(9)), num(1<<63)), api.ErrKind, keys("a", "1")},
		{object(keys("b", "a"), num(1<<63), kind(9)), api.ErrRange, keys("b")},
		{array(flawedAt(12)...), api.ErrKind, keys("12")},
	}
	for i, r := range rows {
		checkError(t, "value "+strconv.Itoa(i), ink.Check(r.v), r.code, r.words...)
	}
}

// flawedAt: values, the one at a place such as may not be.
func flawedAt(i int) []tree.Value {
	return append(slices.Repeat([]tree.Value{num(1)}, i), kind(9), num(1))
}

// P6.1: a text's text, whatever bytes it has.
func TestQuote(t *testing.T) {
	rows := []struct {
		s, want string
	}{
		{"", `""`},
		{"a", `"a"`},
		{" a~", `" a~"`},
		{"\n", `"\n"`},
		{`"`, `"\""`},
		{`\`, `"\\"`},
		{"a\"b\\c\nd", `"a\"b\\c\nd"`},
		{`\n`, `"\\n"`},
		{"\x00", `""`},
		{"a\x00b\tc\rd\x7f\x80\xff\n", `"abcd\n"`},
		{"\u00e9t\u00e9", `"t"`},
	}
	for _, r := range rows {
		check(t, "Quote of "+strconv.Quote(r.s), ink.Quote(r.s), r.want)
	}
	for b := range 256 {
		one := string([]byte{byte(b)})
		want := ""
		switch {
		case one == "\n":
			want = `\n`
		case one == `"` || one == `\`:
			want = `\` + one
		case b >= 32 && b <= 126:
			want = one
		}
		check(t, "Quote of byte "+strconv.Itoa(b), ink.Quote("x"+one+"y"), `"x`+want+`y"`)
	}
}

// P6.2: members by rising keys, in objects within arrays and objects too.
func TestSort(t *testing.T) {
	rows := []struct {
		text, want string
	}{
		{"null", "null"},
		{"false", "false"},
		{"true", "true"},
		{"7", "7"},
		{`"b a"`, `"b a"`},
		{"[]", "[]"},
		{"[3,1,2]", "[3,1,2]"},
		{"{}", "{}"},
		{`{"a":1}`, `{"a":1}`},
		{`{"b":1,"a":2}`, `{"a":2,"b":1}`},
		{`{"a":1,"b":2}`, `{"a":1,"b":2}`},
		{`{"c":1,"a":2,"b":3}`, `{"a":2,"b":3,"c":1}`},
		{`{"b":1,"a":2,"B":3,"":4,"aa":5,"_":6,"10":7,"9":8,"~":9,"\n":10," ":11}`,
			`{"":4,"\n":10," ":11,"10":7,"9":8,"B":3,"_":6,"a":2,"aa":5,"b":1,"~":9}`},
		{`{"b":{"d":1,"c":2},"a":[{"f":1,"e":2}]}`, `{"a":[{"e":2,"f":1}],"b":{"c":2,"d":1}}`},
		{`[[{"b":1,"a":{"d":1,"c":[2,1]}}],{"b":1,"a":2}]`, `[[{"a":{"c":[2,1],"d":1},"b":1}],{"a":2,"b":1}]`},
	}
	for _, r := range rows {
		got := ink.Sort(parsed(t, r.text))
		checkText(t, got, r.want)
		check(t, "Same as "+r.want, ink.Same(got, parsed(t, r.want)), true)
		check(t, "sorted twice", ink.Same(ink.Sort(got), got), true)
	}
}

// P6.2: members of one key stay in their order, however many there are.
func TestSortOfOneKey(t *testing.T) {
	v := object(keys("b", "a", "b", "a", "b"), num(1), num(2), num(3), num(4), num(5))
	checkValue(t, "five", ink.Sort(v), object(keys("a", "a", "b", "b", "b"), num(2), num(4), num(1), num(3), num(5)))
	many := object(nil)
	for i := range 300 {
		many.Keys = append(many.Keys, string([]byte{byte('a' + i*7%3)}))
		many.List = append(many.List, num(uint64(i)))
	}
	got := ink.Sort(many)
	check(t, "rising", sort.StringsAreSorted(got.Keys), true)
	check(t, "how many", len(got.List), 300)
	for i := 1; i < 300; i++ {
		inOrder := got.Keys[i-1] < got.Keys[i] || got.List[i-1].Num < got.List[i].Num
		check(t, "in their order at "+strconv.Itoa(i), inOrder, true)
	}
	for i, m := range got.List {
		check(t, "key of "+strconv.Itoa(i), got.Keys[i], many.Keys[m.Num])
	}
}

// P6.2: of uneven objects the members stay, but what is within them is sorted.
func TestSortOfUneven(t *testing.T) {
	mixed := object(keys("b", "a"), num(1), num(2))
	sorted := object(keys("a", "b"), num(2), num(1))
	rows := []struct {
		v, want tree.Value
	}{
		{object(keys("c", "b", "a"), mixed), object(keys("c", "b", "a"), sorted)},
		{object(keys("b", "a"), num(1), mixed, array(mixed)), object(keys("b", "a"), num(1), sorted, array(sorted))},
		{object(keys("b", "a")), object(keys("b", "a"))},
		{object(nil, mixed, num(1)), object(nil, sorted, num(1))},
		{object(keys("d", "c"), object(keys("b", "a"), mixed), mixed), object(keys("c", "d"), sorted, object(keys("b", "a"), sorted))},
	}
	for i, r := range rows {
		checkValue(t, "uneven object "+strconv.Itoa(i), ink.Sort(r.v), r.want)
		check(t, "same", ink.Same(ink.Sort(r.v), r.want), true)
	}
}

// P6.2: fields that aren't of the kind change nothing.
func TestSortOfOddFields(t *testing.T) {
	for k := range 7 {
		check(t, "kind "+strconv.Itoa(k), ink.Same(ink.Sort(sharp(k)), sharp(k)), true)
	}
	for _, k := range []int{-1, 7} {
		check(t, "kind "+strconv.Itoa(k), ink.Sort(odd(k)).Kind, k)
	}
	for k := -1; k <= 7; k++ {
		v := odd(k)
		got := ink.Sort(v)
		for i := range got.List {
			got.List[i] = num(9)
		}
		for i := range got.Keys {
			got.Keys[i] = "z"
		}
		checkValue(t, "once the answer was changed", v, odd(k))
	}
}

// P6.2, and the rule of memory: what is sorted stays, and shares no lists.
func TestSortChangesNothing(t *testing.T) {
	const text = `{"b":[{"d":1,"c":2}],"a":{"f":[3],"e":4}}`
	v, before := parsed(t, text), parsed(t, text)
	v.List = append(v.List, num(1), num(2))[:2] // with spare room
	got := ink.Sort(v)
	want := ink.Sort(before)
	checkValue(t, "what was sorted", v, before)
	checkValue(t, "spare room", v.List[:3][2], num(1))
	got.Keys[0], got.List[0].Keys[0], got.List[1].List[0].Keys[0] = "x", "y", "z"
	got.List[0].List[1].List[0].Num = 9
	got.List[1].List[0].List[0].Num = 9
	checkValue(t, "once the answer was changed", v, before)
	checkValue(t, "sorted again", ink.Sort(v), want)
	uneven := object(keys("b", "a"), array(num(1)))
	other := ink.Sort(uneven)
	other.Keys[0], other.List[0].List[0].Num = "z", 9
	checkValue(t, "an uneven one", uneven, object(keys("b", "a"), array(num(1))))
}

// unlikes: values no two of which are the same.
func unlikes() []tree.Value {
	return []tree.Value{
		kind(0), kind(1), kind(2), kind(7), kind(8), kind(-1),
		num(0), num(1), num(api.MaxCost), num(api.MaxCost + 1), num(1<<64 - 1),
		textOf(""), textOf("0"), textOf("a"), textOf("A"), textOf("a "), textOf("\x00"), textOf("null"),
		array(), array(kind(0)), array(num(0)), array(num(1)), array(num(0), num(1)), array(num(1), num(0)), array(num(0), num(0)),
		array(array()), array(array(), array()), array(array(array())), array(object(nil)), array(textOf("a")), array(kind(7)), array(kind(8)),
		object(nil), object(keys("a"), num(0)), object(keys("a"), num(1)), object(keys("b"), num(0)), object(keys(""), num(0)),
		object(keys("a", "b"), num(0), num(1)), object(keys("b", "a"), num(1), num(0)), object(keys("a", "b"), num(1), num(0)),
		object(keys("a"), array()), object(keys("a"), object(nil)), object(keys("a"), object(keys("a"), num(0))),
		object(keys("a")), object(keys("a", "b")), object(nil, num(0)), object(keys("a"), num(0), num(1)), object(keys("a", "b"), num(0)), object(keys("a", "a"), num(0), num(1)),
	}
}

// P6.2: Same tells unlike values apart, at whatever depth, and only those.
func TestSame(t *testing.T) {
	l := unlikes()
	for i, a := range l {
		for j, b := range unlikes() {
			what := strconv.Itoa(i) + " and " + strconv.Itoa(j)
			check(t, "same of "+what, ink.Same(a, b), i == j)
			check(t, "within arrays "+what, ink.Same(array(num(1), a), array(num(1), b)), i == j)
			check(t, "within objects "+what, ink.Same(object(keys("x", "y"), a, num(1)), object(keys("x", "y"), b, num(1))), i == j)
		}
	}
}

// P6.2: places, and what isn't of the kind, don't count; nor is a list of none
// nil or empty.
func TestSameOfOddFields(t *testing.T) {
	clean := []tree.Value{kind(0), kind(1), kind(2), num(5), textOf("t"), array(num(1)), object(keys("k"), num(1))}
	for k, v := range clean {
		check(t, "kind "+strconv.Itoa(k), ink.Same(sharp(k), v) && ink.Same(v, sharp(k)), true)
		check(t, "within", ink.Same(array(sharp(k)), array(v)), true)
		v.At = 77
		check(t, "elsewhere", ink.Same(sharp(k), v), true)
	}
	for _, k := range []int{-1, 7} {
		check(t, "kind "+strconv.Itoa(k), ink.Same(odd(k), kind(k)), true)
	}
	check(t, "empty array", ink.Same(array([]tree.Value{}...), array()), true)
	check(t, "empty object", ink.Same(object([]string{}, []tree.Value{}...), object(nil)), true)
}

// P6.2, and P1: values made by hand may be deeper than those that are written.
func TestDeepest(t *testing.T) {
	a, b := inObjects(num(1), deepest), inArrays(object(keys("b", "a"), num(1), num(2)), deepest)
	check(t, "same", ink.Same(a, inObjects(num(1), deepest)), true)
	check(t, "same as another", ink.Same(a, inObjects(num(2), deepest)), false)
	check(t, "sorted", ink.Sort(a).Deep(), deepest)
	want := inArrays(object(keys("a", "b"), num(2), num(1)), deepest)
	check(t, "sorted within", ink.Same(ink.Sort(b), want), true)
}

// samples: values that may be written, with what the edges have.
func samples() []tree.Value {
	all := ""
	for b := 32; b <= 126; b++ {
		all += string([]byte{byte(b)})
	}
	return []tree.Value{
		kind(tree.Null), kind(tree.False), kind(tree.True), num(0), num(10), num(api.MaxCost),
		textOf(""), textOf(all), textOf("\n" + all + "\n\n"), textOf(`\n\\"\"`), textOf("\\\n\\"), textOf(strings.Repeat("\n", 32767)),
		array(), object(nil), array(array(), object(nil), num(1)), inArrays(array(), 63), inObjects(object(nil), 63),
		object(keys("", "\n", all, `\`, `"`), num(1), kind(tree.True), textOf(all), array(textOf("")), object(keys(""), kind(tree.Null))),
		array(slices.Repeat([]tree.Value{textOf(" , ")}, 1000)...),
	}
}

// P6.3: what is written is read as it was.
func TestWrittenIsRead(t *testing.T) {
	for i, v := range samples() {
		text, err := ink.Text(v)
		checkError(t, "Text", err, api.OK)
		check(t, "read as it was: "+strconv.Itoa(i), ink.Same(parsed(t, text), v), true)
		again, _ := ink.Text(parsed(t, text))
		check(t, "written again", again, text)
		check(t, "is JSON", json.Valid([]byte(text)), true)
	}
	for _, v := range samples() {
		if v.Kind == tree.Text {
			checkValue(t, "Quote", parsed(t, ink.Quote(v.Text)), v)
		}
	}
}

// P6.3: what is read is written without the blanks that it had.
func TestReadIsWritten(t *testing.T) {
	rows := []struct {
		text, want string
	}{
		{" null ", "null"},
		{"\t7\r\n", "7"},
		{` " a " `, `" a "`},
		{"[ ]", "[]"},
		{"{\n}", "{}"},
		{"[ 1 , 2 ]", "[1,2]"},
		{` { "b" : [ { "a b" : "\\ \" \n" } , true ] , "a" : false } `, `{"b":[{"a b":"\\ \" \n"},true],"a":false}`},
	}
	for _, r := range rows {
		checkText(t, parsed(t, r.text), r.want)
		checkText(t, parsed(t, r.want), r.want)
	}
}

// P6.3: of short texts that are values each is written without blanks.
func TestShortTextsAreWritten(t *testing.T) {
	const signs = `[]{}:,"a1 `
	read := 0
	var grow func(text string)
	grow = func(text string) {
		if v, err := tree.Parse(text); err == nil {
			read++
			checkText(t, v, withoutBlanks(text))
		}
		if len(text) < 6 {
			for i := range len(signs) {
				grow(text + signs[i:i+1])
			}
		}
	}
	grow("")
	check(t, "some were read", read > 500, true)
}

// withoutBlanks: a value's text without the spaces between its signs. (None of
// those that are asked has a \.)
func withoutBlanks(text string) string {
	var b strings.Builder
	within := false
	for i := range len(text) {
		if text[i] == '"' {
			within = !within
		}
		if within || text[i] != ' ' {
			b.WriteByte(text[i])
		}
	}
	return b.String()
}
