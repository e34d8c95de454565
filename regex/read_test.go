package regex_test

import (
	"math/rand"
	"regexp"
	"slices"
	"strings"
	"testing"

	"fairlead/api"
	"fairlead/oops"
	"fairlead/regex"
	"fairlead/scan"
)

// reads: is all of a text read as that?
func reads(t *testing.T, s string, want regex.Expr) {
	t.Helper()
	x, err := regex.Parse(s)
	checkNil(t, short(s), err)
	if whole(x) != whole(want) {
		t.Errorf("%s: read %s, want %s", short(s), short(whole(x)), short(whole(want)))
	}
	checkNil(t, short(s)+" may be", regex.Check(x))
	stands(t, s+"@", want)
}

// refused: is a text refused by Parse, at the place of the @ in it?
func refused(t *testing.T, marked string, code api.Errno) {
	t.Helper()
	s, at := strings.Replace(marked, "@", "", 1), strings.Index(marked, "@")
	x, err := regex.Parse(s)
	checkFault(t, short(marked), err, code, at)
	check(t, short(marked)+": beside an error", whole(x), whole(regex.Expr{}))
}

// unread: is it refused by Read, too, wherever the text begins?
func unread(t *testing.T, marked string, code api.Errno) {
	t.Helper()
	refused(t, marked, code)
	s, at := strings.Replace(marked, "@", "", 1), strings.Index(marked, "@")
	for _, ahead := range []string{"", "#", ")) "} {
		from := placed(t, ahead, s)
		c, x, err := regex.Read(from)
		checkFault(t, short(marked)+" from "+ahead, err, code, len(ahead)+at)
		check(t, short(marked)+": the scan beside an error", c, from)
		check(t, short(marked)+": beside an error", whole(x), whole(regex.Expr{}))
	}
}

// stands: is that read, up to the @, of a text?
func stands(t *testing.T, marked string, want regex.Expr) {
	t.Helper()
	s, at := strings.Replace(marked, "@", "", 1), strings.Index(marked, "@")
	for _, ahead := range []string{"", "#", ")) "} {
		c, x, err := regex.Read(placed(t, ahead, s))
		checkNil(t, short(marked)+" from "+ahead, err)
		if end := len(strings.TrimRight(s[:at], " \t\r\n")); c.At() != len(ahead)+end || c.Rest() != s[end:] {
			t.Errorf("%s from %s: the scan stands at %d", short(marked), ahead, c.At())
		}
		if whole(x) != whole(want) {
			t.Errorf("%s from %s: read %s, want %s", short(marked), ahead, short(whole(x)), short(whole(want)))
		}
	}
}

// placed: the place of a text behind another one.
func placed(t *testing.T, ahead, s string) scan.Scan {
	t.Helper()
	c, err := scan.New(ahead + s)
	checkNil(t, "the beginning of "+short(s), err)
	c, _ = c.Has(ahead)
	return c
}

// P15.2: each part, and what they are made of.
func TestRead(t *testing.T) {
	a, b, c := atom("a"), atom("b"), atom("c")
	reads(t, ".", anyOne())
	reads(t, "a", a)
	reads(t, "$ip", atom("$ip"))
	reads(t, "a#b", atom("a#b"))
	reads(t, "[a]", a)
	reads(t, "[^a]", not("a"))
	reads(t, "[a,b]", atom("a", "b"))
	reads(t, "[^a,b]", not("a", "b"))
	reads(t, "()", cat())
	reads(t, "(a)", a)
	reads(t, "((a))", a)
	reads(t, "((()))", cat())
	reads(t, "a b", cat(a, b))
	reads(t, "a b c", cat(a, b, c))
	reads(t, "a|b", alt(a, b))
	reads(t, "a|b|c", alt(a, b, c))
	reads(t, "a*", star(a))
	reads(t, "a+", plus(a))
	reads(t, "a?", opt(a))
	reads(t, "a*+?", opt(plus(star(a))))
	reads(t, "a b* | [^c,d]", alt(cat(a, star(b)), not("c", "d")))
}

// P15.2: what stands in brackets is of its own; a row, and an Alt, of one isn't.
func TestReadBrackets(t *testing.T) {
	a, b, c := atom("a"), atom("b"), atom("c")
	reads(t, "(a b) c", cat(cat(a, b), c))
	reads(t, "a (b c)", cat(a, cat(b, c)))
	reads(t, "(a b c)", cat(a, b, c))
	reads(t, "((a) (b) ((c)))", cat(a, b, c))
	reads(t, "(a|b)|c", alt(alt(a, b), c))
	reads(t, "a|(b|c)", alt(a, alt(b, c)))
	reads(t, "(a|b) c", cat(alt(a, b), c))
	reads(t, "a b|c", alt(cat(a, b), c))
	reads(t, "(a b)|c", alt(cat(a, b), c))
	reads(t, "a (b|c)*", cat(a, star(alt(b, c))))
	reads(t, "(a b)*", star(cat(a, b)))
	reads(t, "(a*)*", star(star(a)))
	reads(t, "((a|b))", alt(a, b))
	reads(t, "()()", cat(cat(), cat()))
	reads(t, "()*|()+", alt(star(cat()), plus(cat())))
	reads(t, "(a)(b)", cat(a, b))
}

// P15.2: names take up all that they can.
func TestReadNames(t *testing.T) {
	a := atom("a")
	reads(t, "a.", atom("a."))
	reads(t, "a .", cat(a, anyOne()))
	reads(t, ".a", cat(anyOne(), a))
	reads(t, "..", cat(anyOne(), anyOne()))
	reads(t, "..a..", cat(anyOne(), anyOne(), atom("a..")))
	reads(t, "[a]b", cat(a, atom("b")))
	reads(t, "a[b](c).", cat(a, atom("b"), atom("c"), anyOne()))
	reads(t, "a$b", cat(a, atom("$b")))
	reads(t, "$a$b", cat(atom("$a"), atom("$b")))
	reads(t, "a*b", cat(star(a), atom("b")))
	reads(t, "a-1#b.2*", star(atom("a-1#b.2")))
	for _, word := range goodWords() {
		reads(t, word, atom(word))
		reads(t, "[^"+word+"]", not(word))
		reads(t, "("+word+")?", opt(atom(word)))
	}
}

// P15.2: words of an Atom may come in any order.
func TestReadWords(t *testing.T) {
	reads(t, "[b,a]", atom("a", "b"))
	reads(t, "[c,b,a]", atom("a", "b", "c"))
	reads(t, "[^b,c,a]", not("a", "b", "c"))
	reads(t, "[a#b,a,$a]", atom("$a", "a", "a#b"))
	reads(t, "[a,A,aa,a-]", atom("A", "a", "a-", "aa"))
	l := goodWords()
	s := "[" + strings.Join(l, ",") + "]"
	slices.Sort(l)
	reads(t, s, atom(l...))
	var many []string
	for i := range 3000 {
		many = append(many, "n"+string([]byte{'a' + byte(i%26), 'a' + byte(i/26%26), 'a' + byte(i/26/26)}))
	}
	s = "[^" + strings.Join(many, ",") + "]"
	slices.Sort(many)
	reads(t, s, not(many...))
}

// P15.2: blanks may stand ahead of and behind each sign, and each word.
func TestReadBlanks(t *testing.T) {
	want := alt(cat(atom("a"), plus(star(atom("b#c")))), opt(not("$c", "d")), cat(), cat(anyOne(), anyOne()), plus(alt(atom("e"), cat())))
	signs := strings.Split("a b#c * + | [ ^ d , $c ] ? | ( ) | . . | ( ( e | ( ) ) ) +", " ")
	for _, blank := range []string{" ", "\t", "\n", "\r", "  ", " \t\r\n "} {
		reads(t, strings.Join(signs, blank), want)
		reads(t, blank+strings.Join(signs, blank)+blank, want)
	}
	reads(t, "a b#c*+|[^d,$c]?|()|..|((e|()))+", want)
	for _, other := range []string{"\v", "\f", "\x00", "\u00a0", "\u2003"} {
		refused(t, "a@"+other+"b", api.ErrForm)
		unread(t, "@"+other+"a", api.ErrForm)
		refused(t, "a@"+other, api.ErrForm)
		unread(t, "(a@"+other+")", api.ErrForm)
	}
}

// P15.2: within a word there are no blanks.
func TestReadNoBlanks(t *testing.T) {
	refused(t, "a @#b", api.ErrForm)
	unread(t, "a#@ b", api.ErrForm)
	unread(t, "$@ ip", api.ErrForm)
	unread(t, "[a @#b]", api.ErrForm)
	unread(t, "[a#@ b]", api.ErrForm)
	unread(t, "[a @b]", api.ErrForm)
	reads(t, "a b", cat(atom("a"), atom("b")))
}

// P15.2: Read goes as far as one can go on, and stands behind the last sign.
func TestReadStands(t *testing.T) {
	a, b := atom("a"), atom("b")
	stands(t, "a@> b", a)
	stands(t, " a @> b", a)
	stands(t, ".* @<. $ip> 1", star(anyOne()))
	stands(t, "a b @) c", cat(a, b))
	stands(t, "a|b @]", alt(a, b))
	stands(t, "a @1", a)
	stands(t, "a @-", a)
	stands(t, "a @,b", a)
	stands(t, "a @^b", a)
}

// P15.2: behind a name a # begins the second one, which must be there then.
func TestReadPair(t *testing.T) {
	unread(t, "a#@", api.ErrShort)
	unread(t, "a#@1", api.ErrForm)
	unread(t, "a#@#b", api.ErrForm)
	unread(t, "a#@$b", api.ErrForm)
	unread(t, "[a#@,b]", api.ErrForm)
	unread(t, "[a,b#@]", api.ErrForm)
	refused(t, "a#b@#c", api.ErrForm)
	refused(t, "$a@#b", api.ErrForm)
	unread(t, "[$a@#b]", api.ErrForm)
	unread(t, "[a#b@#c]", api.ErrForm)
	stands(t, "a#b@#c", atom("a#b"))
	stands(t, "$a@#b", atom("$a"))
}

// missing: must something stand behind each of these, that none of those is?
func missing(t *testing.T, ahead, behind []string) {
	t.Helper()
	for _, first := range ahead {
		unread(t, first+"@", api.ErrShort)
		for _, then := range behind {
			unread(t, first+"@"+then, api.ErrForm)
			unread(t, first+"@"+then+"a)]", api.ErrForm)
		}
	}
}

// P15.2: a part that must stand.
func TestReadMissingPart(t *testing.T) {
	none := strings.Split("* + ? | , ] ^ # 1 - < > { \x00 \xff é \v", " ")
	missing(t, []string{"", " ", "(", "( ", "(((", "a (", "a|("}, none)
	missing(t, []string{"a|", "a | ", "(a|", "a b|c|", "()|", "(a)|\n"}, append(none, ")"))
	unread(t, "@)", api.ErrForm)
	unread(t, " @) a", api.ErrForm)
}

// P15.2: a word that must stand.
func TestReadMissingWord(t *testing.T) {
	none := strings.Split("* + ? | , ] # 1 - < . ( ) [ \x00 \xff é \v", " ")
	missing(t, []string{"[", "[ "}, none)
	missing(t, []string{"[^", "[^ ", "[ ^ ", "[a,", "[a , ", "[^a,b,", "([a,"}, append(none, "^"))
	missing(t, []string{"$", "a#", "a $", "[$", "[a#", "[^a,$", "(a#"}, append(none, "^", "$"))
}

// P15.2: a ] or a ) that must stand.
func TestReadMissingEnd(t *testing.T) {
	missing(t, []string{"(()", "(a b*", "((a) ", "(a|[b]", "(. ", "(a "}, strings.Split("] ^ # , 1 - < \x00 é", " "))
	missing(t, []string{"(a", "(a|b"}, strings.Split("] ^ , < \x00 é", " "))
	missing(t, []string{"[a ", "[^a ", "[a,b ", "([a ", "()|(a [b "}, strings.Split("* | ^ # 1 . ( [ ) b $ \x00 é", " "))
	missing(t, []string{"[a", "[^a,$b"}, strings.Split("* | ^ ( [ ) $ \x00 é", " "))
}

// P15.2: layer 3's errors of names.
func TestReadLong(t *testing.T) {
	long := strings.Repeat("n", api.MaxName+1)
	for _, ahead := range []string{"", " ", "a ", "a|", "(", "[", "[a,", "[^", "[^a , ", "$", "[$", "a#", "[a#", "b#", "(a ", "() ", "a* "} {
		unread(t, ahead+"@"+long, api.ErrLong)
		unread(t, ahead+"@"+long+"#a", api.ErrLong)
		unread(t, ahead+"@"+long+" [", api.ErrLong)
	}
}

// P15.2: a word that is there already.
func TestReadTwice(t *testing.T) {
	unread(t, "[a,@a]", api.ErrTwice)
	unread(t, "[a,b, @a]", api.ErrTwice)
	unread(t, "[^b,a,c,@a,1", api.ErrTwice)
	unread(t, "[$a,a,@$a", api.ErrTwice)
	unread(t, "[a#b,b#a,@a#b*", api.ErrTwice)
	unread(t, "[a,@a,b,b]", api.ErrTwice)
	unread(t, "[a,b,@1,a]", api.ErrForm)
	reads(t, "[a][a]", cat(atom("a"), atom("a")))
	reads(t, "[a,A,a.,$a,a#a]", atom("$a", "A", "a", "a#a", "a."))
}

// P15.2: Parse is of all of a text.
func TestParseAll(t *testing.T) {
	refused(t, "a @)", api.ErrForm)
	refused(t, "a@]", api.ErrForm)
	refused(t, "a \t@1 ", api.ErrForm)
	refused(t, "a| b @> c", api.ErrForm)
	refused(t, "() @,", api.ErrForm)
	refused(t, ".*@^", api.ErrForm)
	refused(t, "@", api.ErrShort)
	refused(t, " \t\n\r@", api.ErrShort)
	full := "a" + strings.Repeat(" ", api.MaxText-1)
	reads(t, full[:api.MaxText-8], atom("a"))
	x, err := regex.Parse(full)
	checkNil(t, "a text of MaxText bytes", err)
	check(t, "a text of MaxText bytes", whole(x), `1"a"`)
	for _, s := range []string{full + " ", full + "b", strings.Repeat("(", api.MaxText+1), strings.Repeat(" ", 1<<20)} {
		x, err = regex.Parse(s)
		checkFault(t, "a longer text", err, api.ErrLong, api.MaxText)
		check(t, "beside an error", whole(x), whole(regex.Expr{}))
	}
}

// P15.2: brackets within one another.
func TestReadDeep(t *testing.T) {
	open, shut := strings.Repeat("(", api.MaxDepth), strings.Repeat(")", api.MaxDepth)
	reads(t, open+"a"+shut, atom("a"))
	reads(t, open+shut, cat())
	reads(t, open+"a"+shut+open+"b"+shut, cat(atom("a"), atom("b")))
	reads(t, open[1:]+"()()"+shut[1:], cat(cat(), cat()))
	reads(t, open[1:]+"()(a)"+shut[1:], cat(cat(), atom("a")))
	unread(t, open+"@(a)"+shut, api.ErrDeep)
	unread(t, open+"@()"+shut, api.ErrDeep)
	unread(t, open+"@(", api.ErrDeep)
	unread(t, open+"@(1", api.ErrDeep)
	unread(t, open+"a @(b)", api.ErrDeep)
	unread(t, open+"a|@(b)", api.ErrDeep)
	unread(t, open+shut+open+"[a]@(", api.ErrDeep)
	unread(t, open+"@1(", api.ErrForm)
	unread(t, open+"a@", api.ErrShort)
	unread(t, open+"@"+strings.Repeat("(", 60000), api.ErrDeep)
	unread(t, open+"@", api.ErrShort)
}

// points: a row of so many, with blanks between.
func points(n int) string { return strings.TrimSpace(strings.Repeat(". ", n)) }

// P15.2: how many expressions there may be, and where one is too many.
func TestReadMany(t *testing.T) {
	full := points(api.MaxNodes - 1) // 100, with the row
	reads(t, full, cat(times(api.MaxNodes-1, anyOne())...))
	reads(t, "((("+full+")))", cat(times(api.MaxNodes-1, anyOne())...))
	reads(t, strings.Repeat(".|", api.MaxNodes-2)+".", alt(times(api.MaxNodes-1, anyOne())...))
	for _, more := range []string{"@.", "@a", "@$a", "@a#b", "@[a]", "@[^a,b]", "@()", "(@.)", "(@a", "((@.)", "@. 1", "(@. 1", "@[a] ["} {
		unread(t, full+" "+more, api.ErrMany)
	}
	for _, more := range []string{"@*", "@+", "@?", "@**", " @* 1"} {
		unread(t, full+more, api.ErrMany)
		unread(t, "("+full+")"+more, api.ErrMany)
	}
	unread(t, "."+strings.Repeat("*", api.MaxNodes-1)+"@*", api.ErrMany)
	unread(t, full+"|@.", api.ErrMany)
	unread(t, full+" | @.", api.ErrMany)
	unread(t, full+"|@(a", api.ErrMany)
	unread(t, full+"|@[", api.ErrMany)
}

// P15.2: a row and an Alt count as they get their second one, at that one.
func TestReadManyRows(t *testing.T) {
	stars := "." + strings.Repeat("*", api.MaxNodes-2) // 99
	most := "." + strings.Repeat("+", api.MaxNodes-1)  // 100
	reads(t, "("+stars+")?", opt(starred(api.MaxNodes-2)))
	for _, between := range []string{"", " ", "|", " | "} {
		unread(t, stars+between+"@.", api.ErrMany) // with the second one it would be 101
		unread(t, most+between+"@.", api.ErrMany)
		unread(t, "("+most+between+"@.)", api.ErrMany)
		unread(t, most+between+"@[", api.ErrMany) // the row comes ahead of what is wrong with the part
		unread(t, most+between+"@[a,a]", api.ErrMany)
		unread(t, most+between+"@(", api.ErrMany)
		unread(t, most+between+"@$", api.ErrMany)
		unread(t, most+between+"@"+strings.Repeat("n", 99), api.ErrMany)
	}
	reads(t, stars[:len(stars)-1]+" .", cat(starred(api.MaxNodes-3), anyOne()))
	reads(t, stars[:len(stars)-1]+"|.", alt(starred(api.MaxNodes-3), anyOne()))
	open := strings.Repeat("(", api.MaxDepth)
	unread(t, open+most+" @(a", api.ErrMany) // ahead of ErrDeep
	unread(t, open+stars+" @(a", api.ErrDeep)
}

// starred: an Any with so many stars.
func starred(n int) regex.Expr {
	x := anyOne()
	for range n {
		x = star(x)
	}
	return x
}

// P15.2: what is wrong with a part itself is told ahead of that it is one too
// many.
func TestReadManyWrong(t *testing.T) {
	full := points(api.MaxNodes - 1)
	unread(t, full+" [a,@1]", api.ErrForm)
	unread(t, full+" [@]", api.ErrForm)
	unread(t, full+" [a@", api.ErrShort)
	unread(t, full+" [a,@a]", api.ErrTwice)
	unread(t, full+" $@", api.ErrShort)
	unread(t, full+" a#@1", api.ErrForm)
	unread(t, full+" @"+strings.Repeat("n", 40), api.ErrLong)
	unread(t, full+" (@", api.ErrShort)
	unread(t, full+" (@1", api.ErrForm)
	open := strings.Repeat("(", api.MaxDepth)
	unread(t, open+full+" @(", api.ErrDeep)
	unread(t, open+full+" @()", api.ErrDeep)
	unread(t, full+" ([a,@1])", api.ErrForm)
	stars := "." + strings.Repeat("*", api.MaxNodes-2) // 99, so that the row is one more
	unread(t, stars+" [a,@1]", api.ErrForm)
	unread(t, stars+"|[a,@1]", api.ErrForm)
	unread(t, stars+"|(@", api.ErrShort)
}

// P15.2, memory: what was read is new each time.
func TestReadMemory(t *testing.T) {
	s := "[b,a] (c|d)*"
	x, _ := regex.Parse(s)
	y, _ := regex.Parse(s)
	x.Kids[0].Words[0] = "z"
	x.Kids[1].Kids[0].Kids[0] = anyOne()
	_ = append(x.Kids[0].Words[:1], "y")
	check(t, "the other one", whole(y), `2{1"a""b"}{4{3{1"c"}{1"d"}}}`)
	z, _ := regex.Parse(s)
	check(t, "a later one", whole(z), whole(y))
}

// token is a sign, or a word.
var token = regexp.MustCompile(`\$[a-z]+|[a-z]+#[a-z]+|[a-z]+|[^a-z$# ]`)

// reduced: is a text of signs and words, with one blank between, an expression,
// by making parts one from the inside outwards? (No word comes twice in one.)
func reduced(signs []string) bool {
	s := ""
	for _, sign := range signs {
		if len(token.FindString(sign)) != len(sign) || sign == "" {
			return false
		}
		if sign[0] == '$' || sign[0] >= 'a' && sign[0] <= 'z' {
			sign = "W"
		}
		s += sign
	}
	s = regexp.MustCompile(`\[\^?W(,W)*\]`).ReplaceAllString(s, "P")
	if strings.ContainsAny(s, "[]^,") {
		return false
	}
	s = strings.NewReplacer("W", "P", ".", "P", "()", "P").Replace(s)
	step := regexp.MustCompile(`P[*+?]|PP|P\|P($|[|)])|\(P\)`)
	for {
		then := step.ReplaceAllStringFunc(s, func(m string) string {
			if strings.HasPrefix(m, "P|P") {
				return "P" + m[3:]
			}
			return "P"
		})
		if then == s {
			return s == "P"
		}
		s = then
	}
}

// P15.2: just what is of that form is read; what is read is printed, and read
// again, as it was (P15.3).
func TestReadSome(t *testing.T) {
	r := rand.New(rand.NewSource(16))
	all := strings.Split(". a b $ip a#b ( ) ( ) | * + ? [ ] [^ , ()", " ")
	read := 0
	for range 30000 {
		var signs []string
		for range 1 + r.Intn(9) {
			sign := all[r.Intn(len(all))]
			if r.Intn(5) == 0 {
				sign = "[c,d]"
			}
			signs = append(signs, sign)
		}
		s := strings.Join(signs, " ")
		flat := token.FindAllString(s, -1)
		x, err := regex.Parse(s)
		if oops.Is(err, api.ErrTwice) {
			continue
		}
		check(t, s+" is an expression", err == nil, reduced(flat))
		if err != nil {
			at := oops.At(err)
			check(t, s+": its place", at >= 0 && at <= len(s) && (at == len(s)) == oops.Is(err, api.ErrShort), true)
			continue
		}
		read++
		again(t, s, x)
	}
	check(t, "some were read", read > 1500, true)
}

// again: is what was read printed, and read, as it was?
func again(t *testing.T, s string, x regex.Expr) {
	t.Helper()
	checkNil(t, s+" may be", regex.Check(x))
	u, err := regex.Print(x)
	checkNil(t, s+": printed", err)
	y, err := regex.Parse(u)
	checkNil(t, s+": read again", err)
	check(t, s+": "+u, whole(y), whole(x))
	v, _ := regex.Print(y)
	check(t, s+": printed again", v, u)
}
