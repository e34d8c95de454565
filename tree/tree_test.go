package tree_test

import (
	"encoding/json"
	"reflect"
	"slices"
	"strconv"
	"strings"
	"testing"

	"fairlead/api"
	"fairlead/oops"
	"fairlead/tree"
)

// deepest is how far DOC.md lets parts be nested in one another.
const deepest = 1 << 16

func check[T comparable](t *testing.T, what string, got, want T) {
	t.Helper()
	if got != want {
		t.Errorf("%s: got %v, want %v", what, got, want)
	}
}

// like: are both the same in every field, a list of none being nil or empty?
func like(a, b tree.Value) bool {
	return a.Kind == b.Kind && a.Text == b.Text && a.Num == b.Num && a.At == b.At &&
		slices.Equal(a.Keys, b.Keys) && slices.EqualFunc(a.List, b.List, like)
}

func checkValue(t *testing.T, what string, got, want tree.Value) {
	t.Helper()
	if !like(got, want) {
		t.Errorf("%s: got %+v, want %+v", what, got, want)
	}
}

// parsed: the value of a text that is one.
func parsed(t *testing.T, text string) tree.Value {
	t.Helper()
	v, err := tree.Parse(text)
	if err != nil {
		t.Fatalf("Parse(%s): %v", short(text), err)
	}
	return v
}

// checkFault: is it just a fault of both, within no words, beside a zero value?
func checkFault(t *testing.T, text string, code api.Errno, at int) {
	t.Helper()
	v, err := tree.Parse(text)
	f, ok := err.(*oops.Fault)
	if !ok || f == nil {
		t.Errorf("Parse(%s): %v is no fault, want %d at %d", short(text), err, code, at)
		return
	}
	check(t, "fault of "+short(text), *f, oops.Fault{Code: code, At: at})
	checkValue(t, "beside the error of "+short(text), v, tree.Value{})
}

func short(s string) string {
	if len(s) <= 50 {
		return strconv.Quote(s)
	}
	return strconv.Quote(s[:50]) + ".. of " + strconv.Itoa(len(s))
}

// nested: a value's text within so many arrays or objects.
func nested(open, inner, shut string, deep int) string {
	return strings.Repeat(open, deep) + inner + strings.Repeat(shut, deep)
}

func num(n uint64, at int) tree.Value { return tree.Value{Kind: tree.Number, Num: n, At: at} }

func textOf(s string, at int) tree.Value { return tree.Value{Kind: tree.Text, Text: s, At: at} }

// P5.1: the kinds' numbers.
func TestKinds(t *testing.T) {
	kinds := []int{tree.Null, tree.False, tree.True, tree.Number, tree.Text, tree.Array, tree.Object}
	check(t, "kinds", slices.Equal(kinds, []int{0, 1, 2, 3, 4, 5, 6}), true)
}

// P5.1: each kind of value alone.
func TestParseOfOne(t *testing.T) {
	rows := []struct {
		text string
		want tree.Value
	}{
		{"null", tree.Value{Kind: tree.Null}},
		{"false", tree.Value{Kind: tree.False}},
		{"true", tree.Value{Kind: tree.True}},
		{"0", num(0, 0)},
		{"7", num(7, 0)},
		{"1203", num(1203, 0)},
		{"9223372036854775807", num(api.MaxCost, 0)},
		{`""`, textOf("", 0)},
		{`"a"`, textOf("a", 0)},
		{`" a b "`, textOf(" a b ", 0)},
		{`"[1,{}]:,null"`, textOf("[1,{}]:,null", 0)},
		{"[]", tree.Value{Kind: tree.Array}},
		{"{}", tree.Value{Kind: tree.Object}},
	}
	for _, r := range rows {
		checkValue(t, r.text, parsed(t, r.text), r.want)
	}
}

// P5.1: what is within arrays and objects, in order, each where it begins.
func TestParseOfMore(t *testing.T) {
	rows := []struct {
		text string
		want tree.Value
	}{
		{"[1]", tree.Value{Kind: tree.Array, List: []tree.Value{num(1, 1)}}},
		{`[10,"a",null]`, tree.Value{Kind: tree.Array, List: []tree.Value{num(10, 1), textOf("a", 4), {Kind: tree.Null, At: 8}}}},
		{"[[],[]]", tree.Value{Kind: tree.Array, List: []tree.Value{{Kind: tree.Array, At: 1}, {Kind: tree.Array, At: 4}}}},
		{`{"":0}`, tree.Value{Kind: tree.Object, Keys: []string{""}, List: []tree.Value{num(0, 4)}}},
		{`{"b":1,"a":true}`, tree.Value{Kind: tree.Object, Keys: []string{"b", "a"}, List: []tree.Value{num(1, 5), {Kind: tree.True, At: 11}}}},
		{`{"a b":{"c":[false]}}`, tree.Value{Kind: tree.Object, Keys: []string{"a b"}, List: []tree.Value{
			{Kind: tree.Object, At: 7, Keys: []string{"c"}, List: []tree.Value{
				{Kind: tree.Array, At: 12, List: []tree.Value{{Kind: tree.False, At: 13}}}}}}}},
		{`[1, {"a": "b"}]`, tree.Value{Kind: tree.Array, List: []tree.Value{num(1, 1),
			{Kind: tree.Object, At: 4, Keys: []string{"a"}, List: []tree.Value{textOf("b", 10)}}}}},
	}
	for _, r := range rows {
		checkValue(t, r.text, parsed(t, r.text), r.want)
	}
}

// P5.1: one key may stand in several objects, beside one another and within.
func TestParseOfOneKeyInSeveralObjects(t *testing.T) {
	v := parsed(t, `[{"a":{"a":1}},{"a":2}]`)
	check(t, "outer", v.List[0].Keys[0], "a")
	check(t, "inner", v.List[0].List[0].Keys[0], "a")
	check(t, "beside", v.List[1].Keys[0], "a")
	parsed(t, `{"a":1,"A":2,"a ":3," a":4,"":5,"aa":6,"\\a":7}`)
}

// P5.1: the bytes that a text may have stand for themselves, or behind a \.
func TestParseOfTextBytes(t *testing.T) {
	rows := []struct {
		text, want string
	}{
		{`"\""`, `"`},
		{`"\\"`, `\`},
		{`"\n"`, "\n"},
		{`"a\"b\\c\nd"`, "a\"b\\c\nd"},
		{`"\\n"`, `\n`},
		{`"\\\\"`, `\\`},
		{`"\\\""`, `\"`},
		{`"nn\nn"`, "nn\nn"},
		{`"/'[{}],:"`, "/'[{}],:"},
	}
	for _, r := range rows {
		checkValue(t, r.text, parsed(t, r.text), textOf(r.want, 0))
		checkValue(t, "key "+r.text, parsed(t, "{"+r.text+":0}"),
			tree.Value{Kind: tree.Object, Keys: []string{r.want}, List: []tree.Value{num(0, len(r.text)+2)}})
	}
}

// P5.1: each byte within a text, plainly, and behind a \.
func TestParseOfEachByteInText(t *testing.T) {
	for b := range 256 {
		one := string([]byte{byte(b)})
		plain := `"x` + one + `y"`
		switch {
		case one == `"`:
			checkFault(t, plain, api.ErrForm, 3) // the text ends there
		case one == `\`:
			checkFault(t, plain, api.ErrForm, 2) // no such sign
		case b < 32 || b > 126:
			checkFault(t, plain, api.ErrForm, 2)
			checkFault(t, "{"+plain+":0}", api.ErrForm, 3)
		default:
			checkValue(t, plain, parsed(t, plain), textOf("x"+one+"y", 0))
		}
		behind := `"x\` + one + `y"`
		if told := map[string]string{`"`: `"`, `\`: `\`, "n": "\n"}[one]; told != "" {
			checkValue(t, behind, parsed(t, behind), textOf("x"+told+"y", 0))
			continue
		}
		checkFault(t, behind, api.ErrForm, 2)
		checkFault(t, "{"+behind+":0}", api.ErrForm, 3)
	}
}

// P5.1: each byte where a value must begin, and behind one.
func TestParseOfEachByteBesideText(t *testing.T) {
	for b := range 256 {
		one := string([]byte{byte(b)})
		if strings.Contains(" \t\n\r", one) {
			checkFault(t, one, api.ErrShort, 1)
			checkValue(t, one+"1"+one, parsed(t, one+"1"+one), num(1, 1))
			continue
		}
		switch {
		case strings.Contains(`nft"[{`, one):
			checkFault(t, one, api.ErrShort, 1)
		case b >= '0' && b <= '9':
			checkValue(t, one, parsed(t, one), num(uint64(b-'0'), 0))
			continue
		default:
			checkFault(t, one, api.ErrForm, 0)
			checkFault(t, " "+one, api.ErrForm, 1)
			checkFault(t, one+"1", api.ErrForm, 0)
		}
		checkFault(t, "1"+one, api.ErrForm, 1)
		checkFault(t, `""`+one, api.ErrForm, 2)
		checkFault(t, "[] "+one, api.ErrForm, 3)
		checkFault(t, "null"+one, api.ErrForm, 4)
	}
}

// P5.1: a text that ends too early, wherever it does.
func TestParseErrShort(t *testing.T) {
	texts := []string{"", " ", " \t\r\n", "n", "nul", "f", "fals", "t", "tru", "[", "[ ", "[1", "[1 ", "[1,", "[1, ", "[[]", "[nul",
		"{", "{ ", `{"`, `{"a`, `{"a\`, `{"a"`, `{"a" `, `{"a":`, `{"a": `, `{"a":1`, `{"a":1 `, `{"a":1,`, `{"a":1, `,
		`{"a":1,"a`, `{"a":1,"a\`, `{"a":{}`, `{"a":[`, `"`, `"a`, `"a\`, `"a\"`, `"\\\`, `"\n`, `[{"a":"b`}
	for _, text := range texts {
		checkFault(t, text, api.ErrShort, len(text))
	}
	checkFault(t, strings.Repeat(" ", 65536), api.ErrShort, 65536)
	checkFault(t, strings.Repeat("[", 64), api.ErrShort, 64)
}

// P5.1: the first byte that can't go on.
func TestParseErrForm(t *testing.T) {
	rows := []struct {
		text string
		at   int
	}{
		{"nulx", 3}, {"nul ", 3}, {"n ull", 1}, {"Null", 0}, {"NULL", 0}, {"nill", 1}, {"nullnull", 4}, {"falsy", 4}, {"tru,", 3}, {"truE", 3},
		{"x", 0}, {"  x", 2}, {"-1", 0}, {"+1", 0}, {".5", 0}, {"1.5", 1}, {"1e5", 1}, {"1E5", 1}, {"0x1", 1}, {"1 2", 2}, {"0 7", 2}, {"1_0", 1},
		{"[1,]", 3}, {"[1, ]", 4}, {"[,1]", 1}, {"[,", 1}, {"[1,,2]", 3}, {"[1 2]", 3}, {"[1}", 2}, {"[}", 1}, {"[1:2]", 2}, {"[]]", 2}, {"]", 0}, {",", 0}, {":", 0}, {"}", 0},
		{"[-1]", 1}, {"[1a]", 2}, {"[nul]", 4}, {`["a"b]`, 4}, {`["a""b"]`, 4}, {"[1],", 3},
		{"{,", 1}, {"{]", 1}, {"{1:2}", 1}, {"{a:2}", 1}, {"{null:2}", 1}, {"{:", 1}, {`{"a"}`, 4}, {`{"a" }`, 5}, {`{"a",`, 4}, {`{"a"1}`, 4},
		{`{"a":}`, 5}, {`{"a":,`, 5}, {`{"a"::`, 5}, {`{"a":1,}`, 7}, {`{"a":1,,`, 7}, {`{"a":1]`, 6}, {`{"a":1 "b":2}`, 7}, {`{"a":1:`, 6}, {`{"a":1}}`, 7}, {`{{`, 1}, {`{[`, 1},
		{`'a'`, 0}, {`"a"b`, 3}, {`"a" "b"`, 4}, {"\"a\nb\"", 2}, {"\"\t\"", 1}, {"\"\x00", 1}, {"\"\x7f\"", 1}, {"\"\u00e9\"", 1},
		{"\x00", 0}, {"\xef\xbb\xbf1", 0}, {"1\x00", 1}, {"[\x00]", 1}, {"1\v", 1}, {"\f1", 0}, {"\u00a01", 0}, {"// x", 0},
		{`"\x"`, 1}, {`"\/"`, 1}, {`"\t"`, 1}, {`"\N"`, 1}, {`"\u0041"`, 1}, {"\"\\\n\"", 1}, {"\"\\\x00", 1}, {"\"\\\xff", 1}, {`"ab\ "`, 3}, {`"\\\a`, 3}, {`"\n\r"`, 3},
		{"00", 0}, {"07", 0}, {"0099", 0}, {"[1,07]", 3}, {` {"a": 00}`, 7}, {"07x", 0}, {"09223372036854775808", 0}, {strings.Repeat("0", 65536), 0},
	}
	for _, r := range rows {
		checkFault(t, r.text, api.ErrForm, r.at)
	}
}

// P5.1: numbers are amounts, the greatest too.
func TestParseErrRange(t *testing.T) {
	rows := []struct {
		text string
		at   int
	}{
		{"9223372036854775808", 0},
		{" 18446744073709551616", 1},
		{"[1, 99999999999999999999]", 4},
		{`{"a":18446744073709551617}`, 5},
		{"9223372036854775808x", 0}, // met ahead of the x
		{strings.Repeat("9", 65536), 0},
	}
	for _, r := range rows {
		checkFault(t, r.text, api.ErrRange, r.at)
	}
}

// P5.1: a text of MaxText bytes, and of one more, whatever stands in it.
func TestParseErrLong(t *testing.T) {
	checkValue(t, "blanks behind", parsed(t, "1"+strings.Repeat(" ", 65535)), num(1, 0))
	checkValue(t, "blanks ahead", parsed(t, strings.Repeat(" ", 65535)+"1"), num(1, 65535))
	long := strings.Repeat("a", 65534)
	checkValue(t, "a long text", parsed(t, `"`+long+`"`), textOf(long, 0))
	many := parsed(t, "["+strings.Repeat("1,", 32766)+" 1]")
	check(t, "a long array", len(many.List), 32767)
	for _, text := range []string{"1" + strings.Repeat(" ", 65536), strings.Repeat(" ", 65537), `"` + long + ` "`,
		strings.Repeat("[", 65537), "x" + strings.Repeat("1", 65536), strings.Repeat("\xff", 100000)} {
		checkFault(t, text, api.ErrLong, 65536)
	}
}

// P5.1: at most 64 arrays and objects within one another.
func TestParseErrDeep(t *testing.T) {
	check(t, "64 arrays", parsed(t, nested("[", "", "]", 64)).Deep(), 64)
	check(t, "64 arrays around a number", parsed(t, nested("[", "1", "]", 64)).Deep(), 64)
	check(t, "64 objects", parsed(t, nested(`{"a":`, "null", "}", 64)).Deep(), 64)
	check(t, "64 of both", parsed(t, nested(`[{"a":`, "null", "}]", 32)).Deep(), 64)
	check(t, "64, and some beside", parsed(t, nested(`[{"a":`, "[[]]", "},[]]", 31)).Deep(), 64)
	checkFault(t, nested("[", "", "]", 65), api.ErrDeep, 64)
	checkFault(t, strings.Repeat("[", 65), api.ErrDeep, 64)
	checkFault(t, nested("[", "x", "]", 66), api.ErrDeep, 64)
	checkFault(t, nested("[ ", "1", "]", 65), api.ErrDeep, 128)
	checkFault(t, nested(`{"a":`, "1", "}", 65), api.ErrDeep, 320)
	checkFault(t, nested(`[{"a":`, "{}", "}]", 32), api.ErrDeep, 192)
	checkFault(t, nested(`[{"a":`, "[]", "}]", 32), api.ErrDeep, 192)
	checkFault(t, "[1,"+nested("[", "", "]", 64)+"]", api.ErrDeep, 66)
	checkFault(t, nested("[", "{x", "]", 63), api.ErrForm, 64)
	check(t, "many beside one another", len(parsed(t, "["+strings.Repeat("[],", 999)+"{}]").List), 1000)
}

// P5.1: a key that is there already, told at its beginning, once it is read.
func TestParseErrTwice(t *testing.T) {
	rows := []struct {
		text string
		at   int
	}{
		{`{"a":1,"a":2}`, 7},
		{`{"a":1,"b":2,"a":3}`, 13},
		{`{"a":1, "b":2,` + "\n" + ` "b":3}`, 16},
		{`{"":1,"":2}`, 6},
		{`{"a":1,"a"`, 7},
		{`{"a":1,"a"x`, 7},
		{`{"a":1,"a":x}`, 7},
		{`{"\n":1,"\n":2}`, 8},
		{`{"\"\\":1,"\"\\":2}`, 10},
		{`[{"a":{"a":1,"b":2,"a":3}}]`, 19},
		{`{"a":{"b":1},"b":2,"a":3}`, 19},
	}
	for _, r := range rows {
		checkFault(t, r.text, api.ErrTwice, r.at)
	}
	checkFault(t, `{"a":1,"a\x":2}`, api.ErrForm, 9)
	checkFault(t, `{"a":x,"a":2}`, api.ErrForm, 5)
	checkFault(t, `{"a":1,"a":2,"b":[1,]}`, api.ErrTwice, 7)
}

// P5.1: an object of many keys, and one of them twice.
func TestParseOfManyKeys(t *testing.T) {
	var b strings.Builder
	for i := range 5000 {
		b.WriteString(`"k` + strconv.Itoa(i) + `":` + strconv.Itoa(i) + ",")
	}
	v := parsed(t, "{"+b.String()+`"x":0}`)
	check(t, "keys", len(v.Keys), 5001)
	for i := range 5000 {
		check(t, "key", v.Keys[i], "k"+strconv.Itoa(i))
		check(t, "value", v.List[i].Num, uint64(i))
	}
	checkFault(t, "{"+b.String()+`"k4999":0}`, api.ErrTwice, b.Len()+1)
	checkFault(t, "{"+b.String()+`"k0":0}`, api.ErrTwice, b.Len()+1)
}

// shortTexts: each text of some signs, up to a length.
func shortTexts(signs string, length int, do func(text string)) {
	var grow func(text string)
	grow = func(text string) {
		do(text)
		if len(text) < length {
			for i := range len(signs) {
				grow(text + signs[i:i+1])
			}
		}
	}
	grow("")
}

// P5.1: of short texts just those are values that are so in JSON, and they
// tell the same there.
func TestParseAsJSON(t *testing.T) {
	rows := []struct {
		signs  string
		length int
	}{
		{"[],1 ", 7},
		{`{}:"a,`, 7},
		{`"\na`, 8},
		{`[{"":0}]`, 6},
		{"10, []", 6},
	}
	for _, r := range rows {
		shortTexts(r.signs, r.length, func(text string) {
			v, err := tree.Parse(text)
			var want any
			wrong := json.Unmarshal([]byte(text), &want)
			if (err == nil) != (wrong == nil) {
				t.Errorf("Parse(%s): %v, in JSON %v", short(text), err, wrong)
			}
			if err == nil && !reflect.DeepEqual(asJSON(v), want) {
				t.Errorf("Parse(%s): %v, in JSON %v", short(text), asJSON(v), want)
			}
		})
	}
}

// asJSON: a value as encoding/json tells it.
func asJSON(v tree.Value) any {
	switch v.Kind {
	case tree.False, tree.True:
		return v.Kind == tree.True
	case tree.Number:
		return float64(v.Num)
	case tree.Text:
		return v.Text
	case tree.Array:
		l := []any{}
		for _, m := range v.List {
			l = append(l, asJSON(m))
		}
		return l
	case tree.Object:
		members := map[string]any{}
		for i, m := range v.List {
			members[v.Keys[i]] = asJSON(m)
		}
		return members
	}
	return nil
}

// P5.1: the first fault that is met from the front is told, whatever comes
// behind; ahead of it a text only ends too early, if at all.
func TestFirstFaultIsTold(t *testing.T) {
	shortTexts(`[{"a:1,\ `, 6, func(text string) {
		_, err := tree.Parse(text)
		if err == nil || oops.Is(err, api.ErrShort) {
			return
		}
		at := oops.At(err)
		if _, ahead := tree.Parse(text[:at]); ahead != nil && !oops.Is(ahead, api.ErrShort) {
			t.Errorf("Parse(%s): %v, but ahead of it %v", short(text), err, ahead)
		}
		for _, more := range []string{"]", "}", `"`, "x", "0"} {
			if _, other := tree.Parse(text + more); !oops.Same(err, other) {
				t.Errorf("Parse(%s): %v, but with %s behind %v", short(text), err, more, other)
			}
		}
	})
}

// P5.2: the value of a member, or none.
func TestGet(t *testing.T) {
	v := parsed(t, `{"b":1,"":[2],"a":{"b":"x"},"n":null}`)
	rows := []struct {
		key   string
		there bool
		want  tree.Value
	}{
		{"b", true, num(1, 5)},
		{"", true, tree.Value{Kind: tree.Array, At: 10, List: []tree.Value{num(2, 11)}}},
		{"a", true, tree.Value{Kind: tree.Object, At: 18, Keys: []string{"b"}, List: []tree.Value{textOf("x", 23)}}},
		{"n", true, tree.Value{Kind: tree.Null, At: 32}},
		{"c", false, tree.Value{}},
		{"B", false, tree.Value{}},
		{"x", false, tree.Value{}},
		{"bb", false, tree.Value{}},
		{" b", false, tree.Value{}},
	}
	for _, r := range rows {
		got, ok := v.Get(r.key)
		check(t, "Get "+r.key, ok, r.there)
		checkValue(t, "Get "+r.key, got, r.want)
	}
}

// P5.2: what is no object has no members, whatever its fields are.
func TestGetOfOthers(t *testing.T) {
	for _, text := range []string{"null", "true", "1", `"a"`, "[]", `[{"a":1}]`, "{}"} {
		checkNone(t, text, parsed(t, text), "a")
		checkNone(t, text, parsed(t, text), "")
	}
	for kind := -1; kind <= 7; kind++ {
		v := tree.Value{Kind: kind, Text: "a", Num: 1, List: []tree.Value{num(1, 0)}, Keys: []string{"a"}}
		if kind != tree.Object {
			checkNone(t, "kind "+strconv.Itoa(kind), v, "a")
		}
	}
	checkNone(t, "zero", tree.Value{}, "")
}

func checkNone(t *testing.T, what string, v tree.Value, key string) {
	t.Helper()
	got, ok := v.Get(key)
	check(t, what, ok, false)
	checkValue(t, what, got, tree.Value{})
}

// P5.2, and P1: objects made by hand, of fewer or more keys than values.
func TestGetOfUneven(t *testing.T) {
	v := tree.Value{Kind: tree.Object, Keys: []string{"a", "b"}, List: []tree.Value{num(1, 0)}}
	got, ok := v.Get("a")
	check(t, "there", ok && got.Num == 1, true)
	checkNone(t, "a key without a value", v, "b")
	v = tree.Value{Kind: tree.Object, Keys: []string{"a"}, List: []tree.Value{num(1, 0), num(2, 0)}}
	got, ok = v.Get("a")
	check(t, "there", ok && got.Num == 1, true)
	checkNone(t, "a value without a key", v, "")
	checkNone(t, "keys alone", tree.Value{Kind: tree.Object, Keys: []string{"a"}}, "a")
}

// P5.2, and the rule of memory: a member that was told is the asker's own.
func TestGetIsNewEachTime(t *testing.T) {
	v := parsed(t, `{"a":{"b":[1,[2]]}}`)
	before := parsed(t, `{"a":{"b":[1,[2]]}}`)
	got, _ := v.Get("a")
	other, _ := v.Get("a")
	got.Keys[0] = "z"
	got.List[0].List[1].List[0] = num(9, 9)
	got.List[0].List[0].Num = 9
	_ = append(got.List[:0], num(9, 9))
	checkValue(t, "object", v, before)
	checkValue(t, "another answer", other, before.List[0])
	v.List[0].List[0].List[0].Num = 7
	checkValue(t, "once the object was changed", other, before.List[0])
}

// P5.2: a member with fields that aren't of its kind is told as what it is.
func TestGetOfOddMembers(t *testing.T) {
	for kind := -1; kind <= 7; kind++ {
		odd := tree.Value{Kind: kind, Text: "t", Num: 5, List: []tree.Value{num(1, 2)}, Keys: []string{"k"}, At: 3}
		got, ok := tree.Value{Kind: tree.Object, Keys: []string{"a"}, List: []tree.Value{odd}}.Get("a")
		what := "kind " + strconv.Itoa(kind)
		check(t, what, ok && got.Kind == kind && got.At == 3, true)
		check(t, what+": number", kind != tree.Number || got.Num == 5, true)
		check(t, what+": text", kind != tree.Text || got.Text == "t", true)
		if kind == tree.Array || kind == tree.Object {
			check(t, what+": values", slices.EqualFunc(got.List, odd.List, like), true)
		}
		check(t, what+": keys", kind != tree.Object || slices.Equal(got.Keys, odd.Keys), true)
	}
}

// P5.2: how many values, and how many arrays and objects within one another.
func TestSizeDeep(t *testing.T) {
	rows := []struct {
		text       string
		size, deep int
	}{
		{"null", 1, 0},
		{"false", 1, 0},
		{"true", 1, 0},
		{"7", 1, 0},
		{`"[[]]"`, 1, 0},
		{"[]", 1, 1},
		{"{}", 1, 1},
		{"[1]", 2, 1},
		{"[1,2,3]", 4, 1},
		{`{"a":1}`, 2, 1},
		{`{"a":1,"b":"c"}`, 3, 1},
		{`[1, {"a": "b"}]`, 4, 2},
		{"[[],[]]", 3, 2},
		{"[[[]],[],1]", 5, 3},
		{"[1,[],[[]]]", 5, 3},
		{`{"a":{"b":{}},"c":[[[]]]}`, 6, 4},
		{nested("[", "", "]", 64), 64, 64},
		{nested(`{"a":`, "1", "}", 64), 65, 64},
	}
	for _, r := range rows {
		v := parsed(t, r.text)
		check(t, "Size of "+r.text, v.Size(), r.size)
		check(t, "Deep of "+r.text, v.Deep(), r.deep)
	}
}

// P5.2: lists of what is neither an array nor an object don't count.
func TestSizeDeepOfOddFields(t *testing.T) {
	inner := []tree.Value{{Kind: tree.Array, List: []tree.Value{num(1, 0)}}, num(2, 0)}
	for kind := -1; kind <= 7; kind++ {
		v := tree.Value{Kind: kind, List: inner, Keys: []string{"a"}}
		size, deep := 1, 0
		if kind == tree.Array || kind == tree.Object {
			size, deep = 4, 2
		}
		check(t, "Size of kind "+strconv.Itoa(kind), v.Size(), size)
		check(t, "Deep of kind "+strconv.Itoa(kind), v.Deep(), deep)
	}
}

// P5.2, and P1: values made by hand may be deeper than those that are read.
func TestDeepest(t *testing.T) {
	v := num(7, 0)
	for range deepest {
		v = tree.Value{Kind: tree.Object, Keys: []string{"a"}, List: []tree.Value{v}}
	}
	check(t, "Size", v.Size(), deepest+1)
	check(t, "Deep", v.Deep(), deepest)
	got, ok := v.Get("a")
	check(t, "Get", ok && got.Size() == deepest, true)
}

// P5.3: blanks between the signs make no difference, but for places.
func TestBlanksBetween(t *testing.T) {
	signs := []string{"{", `"a"`, ":", "[", "1", ",", `"b c"`, ",", "{", "}", ",", "[", "]", "]", ",", `"d"`, ":", "null", ",", `"e"`, ":", "true", "}"}
	want := placeless(parsed(t, strings.Join(signs, "")))
	for _, blank := range []string{" ", "\t", "\n", "\r", " \r\n\t "} {
		spread := blank + strings.Join(signs, blank) + blank
		checkValue(t, "blanks everywhere", placeless(parsed(t, spread)), want)
		for i := range len(signs) + 1 {
			text := strings.Join(signs[:i], "") + blank + strings.Join(signs[i:], "")
			checkValue(t, "blanks ahead of sign "+strconv.Itoa(i), placeless(parsed(t, text)), want)
		}
	}
}

// placeless: a value whose places are all 0.
func placeless(v tree.Value) tree.Value {
	v.At = 0
	for i := range v.List {
		v.List[i] = placeless(v.List[i])
	}
	return v
}

// P5.3: the places are those in the text, blanks counted.
func TestPlacesBehindBlanks(t *testing.T) {
	v := parsed(t, " \n[ 1 ,\t{ \"a\" : \"b\" } ] ")
	check(t, "array", v.At, 2)
	check(t, "number", v.List[0].At, 4)
	check(t, "object", v.List[1].At, 8)
	check(t, "text", v.List[1].List[0].At, 16)
}
