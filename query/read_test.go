package query_test

import (
	"math/rand"
	"strconv"
	"strings"
	"testing"

	"fairlead/api"
	"fairlead/oops"
	"fairlead/query"
	"fairlead/regex"
)

// short: a text, of a long one the beginning.
func short(s string) string { return strconv.Quote(s[:min(len(s), 60)]) }

// reads: is a text read as that, with its blanks, with others, and with none?
func reads(t *testing.T, s string, want query.Query) {
	t.Helper()
	for _, blank := range []string{" ", "", "\t", "\n", "\r", "   ", " \t\r\n "} {
		spread := strings.ReplaceAll(s, "~", blank)
		q, err := query.Parse(spread)
		checkNil(t, short(spread), err)
		check(t, short(spread), whole(q), whole(want))
	}
}

// refused: is a text refused, at the place of the @ in it?
func refused(t *testing.T, marked string, code api.Errno, words ...string) {
	t.Helper()
	s, at := strings.Replace(marked, "@", "", 1), strings.Index(marked, "@")
	q, err := query.Parse(s)
	checkFault(t, short(marked), err, code, at, words...)
	check(t, short(marked)+": beside an error", whole(q), whole(query.Query{}))
}

// P19.2: queries, and blanks around all that they are made of.
func TestParse(t *testing.T) {
	reads(t, "~<~$ip~>~.~*~<~.~$ip~>~1~", query.Query{atom("$ip"), star(anyOne()), cat(anyOne(), atom("$ip")), 1})
	reads(t, "<.>.<.>0", query.Query{})
	reads(t, "~<~(~)~>~(~)~<~(~)~>~64~", query.Query{cat(), cat(), cat(), 64})
	reads(t, "~<~a~|~b~>~[~^~d~,~c~]~<~[~f~,~e~]~+~>~10~", query.Query{alt(atom("a"), atom("b")), not("c", "d"), of(regex.Plus, atom("e", "f")), 10})
	reads(t, "<a>b#c<d>63", query.Query{atom("a"), atom("b#c"), atom("d"), 63})
	q, err := query.Parse("<" + strings.Repeat(" ", api.MaxText-8) + ".>.<.>0")
	checkNil(t, "the longest text", err)
	check(t, "the longest text", whole(q), whole(query.Query{}))
}

// P19.2: a text that is too long is refused ahead of all else.
func TestParseLong(t *testing.T) {
	for _, s := range []string{"<.> . <.> 0", "?", "<a"} {
		q, err := query.Parse(s + strings.Repeat(" ", api.MaxText+1-len(s)))
		checkFault(t, "too long a text", err, api.ErrLong, api.MaxText)
		check(t, "beside an error", whole(q), whole(query.Query{}))
	}
}

// P19.2: where a <, or a > must stand.
func TestParseSigns(t *testing.T) {
	refused(t, "@", api.ErrShort)
	refused(t, " \t@", api.ErrShort)
	refused(t, "<.@", api.ErrShort)
	refused(t, "<. @", api.ErrShort)
	refused(t, "<.>.@", api.ErrShort)
	refused(t, "<.> . @", api.ErrShort)
	refused(t, "<.>.<.@", api.ErrShort)
	refused(t, "<.>.<.  @", api.ErrShort)
	for _, wrong := range []string{"]", ")", ",", "*?", "@", "\x00", "\v", "=", "5"} {
		if wrong != "*?" {
			refused(t, "<. @"+wrong+"> . <.> 1", api.ErrForm)
			refused(t, "<.> . @"+wrong+"<.> 1", api.ErrForm)
			refused(t, "<.> . <.@"+wrong+"> 1", api.ErrForm)
		}
		refused(t, "@"+wrong+"<.> . <.> 1", api.ErrForm)
	}
	refused(t, "@. . <.> 1", api.ErrForm)
	refused(t, " @> . <.> 1", api.ErrForm)
	refused(t, "<. @<. <.> 1", api.ErrForm)
	refused(t, "<.> . @> .> 1", api.ErrForm)
	refused(t, "<.> . <. @< 1", api.ErrForm)
	refused(t, "<.> . @1", api.ErrForm)
	refused(t, "<.> . <. @1", api.ErrForm)
}

// P19.2: layer 15's errors, within the part's word, at the place in the text.
func TestParseExprs(t *testing.T) {
	for _, part := range []struct{ ahead, behind, word string }{
		{"<", "> . <.> 1", "start"}, {" < . > ", " <.> 1", "path"}, {"<.>.<", ">1", "end"},
		{"<", "", "start"}, {"<.>", "?", "path"}, {"<a> b <", "> 99", "end"},
	} {
		within := func(marked string, code api.Errno) {
			t.Helper()
			refused(t, part.ahead+marked, code, part.word)
			if !strings.HasSuffix(marked, "@") {
				refused(t, part.ahead+marked+part.behind, code, part.word)
			}
		}
		within("@", api.ErrShort)
		within("  @", api.ErrShort)
		within("(@", api.ErrShort)
		within("[a,@", api.ErrShort)
		within("a|@", api.ErrShort)
		within("@>", api.ErrForm)
		within(" @<", api.ErrForm)
		within("@*", api.ErrForm)
		within("a|@|b", api.ErrForm)
		within("(a@]", api.ErrForm)
		within("[a,@.]", api.ErrForm)
		within("[a,@a]", api.ErrTwice)
		within("a [b,c,@b]", api.ErrTwice)
		within("@"+strings.Repeat("n", api.MaxName+1), api.ErrLong)
		within(strings.Repeat("(", api.MaxDepth)+"@(", api.ErrDeep)
		within(strings.Repeat(". ", api.MaxNodes-1)+"@.", api.ErrMany)
	}
	refused(t, "<@> @ <> 99", api.ErrForm, "start")
	refused(t, "<.> @<[a,a]> x", api.ErrForm, "path")
	refused(t, "<.> . <@> 99", api.ErrForm, "end")
}

// P19.2: the number's errors.
func TestParseFails(t *testing.T) {
	refused(t, "<.>.<.>@", api.ErrShort, "fails")
	refused(t, "<.> . <.> \n@", api.ErrShort, "fails")
	for _, wrong := range []string{"x", "-1", "+1", ".5", "00", "01", "064", "\v1", "<", ">", "\x00"} {
		refused(t, "<.> . <.> @"+wrong, api.ErrForm, "fails")
		refused(t, "<.> . <.>@"+wrong+" ?", api.ErrForm, "fails")
	}
	for _, great := range []string{"65", "100", "640", "4294967296", "9223372036854775807", "9223372036854775808", "18446744073709551616", "18446744073709551617", strings.Repeat("9", 99)} {
		refused(t, "<.> . <.> @"+great, api.ErrRange, "fails")
		refused(t, "<.> . <.>\t@"+great+" ?", api.ErrRange, "fails")
	}
}

// P19.2: nothing but blanks may stand behind.
func TestParseEnd(t *testing.T) {
	for _, more := range []string{"?", "<", ".", "x", "\v", "\x00", "\u00a0", "-"} {
		refused(t, "<.> . <.> 1@"+more, api.ErrForm)
		refused(t, "<.> . <.> 64 \t@"+more+" ", api.ErrForm)
	}
	refused(t, "<.> . <.> 1 @2", api.ErrForm)
	refused(t, "<.> . <.> 0 @0", api.ErrForm)
	refused(t, "<.> . <.> 0@x <", api.ErrForm)
}

// P19.2, P4: a text whose end is missing ends too early, whatever is missing.
func TestParseCut(t *testing.T) {
	s, err := query.Print(query.Query{alt(atom("$ip"), cat()), star(not("a#b", "c")), cat(anyOne(), atom("$ip")), 64})
	checkNil(t, "one that may be", err)
	for i := range len(s) - 2 {
		q, err := query.Parse(s[:i])
		check(t, short(s[:i]), oops.Code(err), api.ErrShort)
		check(t, short(s[:i]), oops.At(err), i)
		check(t, short(s[:i])+": beside an error", whole(q), whole(query.Query{}))
	}
}

// P19.4, P4: whatever a text is: an error with a place in it; or a query that
// may be, which is printed and read again as it was.
func TestParseAny(t *testing.T) {
	r := rand.New(rand.NewSource(192))
	pieces := strings.Split("<~<~<~>~>~>~.~.~a~$ip~a#b~(~)~()~[a,b]~[^b]~[~]~*~+~?~|~ ~ ~\n~0~1~64~65~07~x-~\x00~,", "~")
	good := 0
	for range 100000 {
		s := "<"
		for range 2 + r.Intn(10) {
			s += pieces[r.Intn(len(pieces))]
		}
		if r.Intn(2) == 0 {
			s = "<.>" + strings.Join([]string{"a", "a", s[1:]}[:r.Intn(4)], "|") + "<()*>" + pieces[r.Intn(len(pieces))]
		}
		q, err := query.Parse(s)
		if err != nil {
			if at := oops.At(err); at < 0 || at > len(s) || at == len(s) != oops.Is(err, api.ErrShort) {
				t.Errorf("%q: %v", s, err)
			}
			check(t, "beside an error", whole(q), whole(query.Query{}))
			continue
		}
		good++
		checkNil(t, s, query.Check(q))
		printed, err := query.Print(q)
		checkNil(t, s, err)
		back, err := query.Parse(printed)
		checkNil(t, printed, err)
		check(t, s, whole(back), whole(q))
	}
	if good < 1000 {
		t.Errorf("only %d texts are queries", good)
	}
}
