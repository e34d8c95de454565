package regex

import (
	"maps"
	"slices"
	"strings"

	"fairlead/api"
	"fairlead/oops"
	"fairlead/scan"
)

// reader is how far an expression is read.
type reader struct {
	c    scan.Scan // behind the last sign or word, not behind blanks
	size int       // how many expressions there are so far
	deep int       // within how many ( one is
}

// Read: the expression that stands there.
func Read(c scan.Scan) (scan.Scan, Expr, error) {
	r := reader{c: c}
	x, err := r.alternatives()
	if err != nil {
		return c, Expr{}, err
	}
	return r.c, x, nil
}

// Parse: the expression of a text.
func Parse(s string) (Expr, error) {
	c, err := scan.New(s)
	if err != nil {
		return Expr{}, err
	}
	c, x, err := Read(c)
	if err != nil {
		return Expr{}, err
	}
	if c = c.Skip(); !c.End() {
		return Expr{}, oops.New(api.ErrForm, c.At())
	}
	return x, nil
}

// alternatives: rows with | between.
func (r *reader) alternatives() (Expr, error) {
	return r.joined(Alt, r.row, func() bool { return r.took("|") })
}

// row: parts, as long as one begins.
func (r *reader) row() (Expr, error) {
	return r.joined(Cat, r.part, func() bool { return begins(r.c.Skip()) })
}

// joined: one of a kind of all that there are; of one alone that one.
func (r *reader) joined(kind int, next func() (Expr, error), more func() bool) (Expr, error) {
	x, err := next()
	if err != nil || !more() {
		return x, err
	}
	if err := r.count(r.c.Skip().At()); err != nil {
		return Expr{}, err
	}
	kids := []Expr{x}
	for going := true; going; going = more() {
		x, err := next()
		if err != nil {
			return Expr{}, err
		}
		kids = append(kids, x)
	}
	return Expr{Kind: kind, Kids: kids}, nil
}

// part: a base, and the signs behind it.
func (r *reader) part() (Expr, error) {
	x, err := r.base()
	for err == nil {
		c := r.c.Skip()
		sign := strings.IndexByte(signs, c.Peek())
		if sign < 0 || !r.took(signs[sign:sign+1]) {
			break
		}
		x = Expr{Kind: Star + sign, Kids: []Expr{x}}
		err = r.count(c.At())
	}
	if err != nil {
		return Expr{}, err
	}
	return x, nil
}

// base: what stands ahead of a part's signs.
func (r *reader) base() (Expr, error) {
	at := r.c.Skip().At()
	var x Expr
	var err error
	switch {
	case r.took("("):
		return r.brackets(at)
	case r.took("."):
		x = Expr{Kind: Any}
	case r.took("["):
		x, err = r.choice()
	default:
		var word string
		word, err = r.word()
		x = Expr{Kind: Atom, Words: []string{word}}
	}
	if err != nil {
		return Expr{}, err
	}
	return x, r.count(at)
}

// brackets: what stands behind a (, up to its ). They are no expression of
// their own, but where nothing stands between them.
func (r *reader) brackets(at int) (Expr, error) {
	if r.deep == api.MaxDepth {
		return Expr{}, oops.New(api.ErrDeep, at)
	}
	if r.took(")") {
		return Expr{Kind: Cat}, r.count(at)
	}
	r.deep++
	x, err := r.alternatives()
	if err != nil {
		return Expr{}, err
	}
	r.deep--
	return x, r.take(')')
}

// choice: the Atom that stands behind a [, up to its ].
func (r *reader) choice() (Expr, error) {
	x := Expr{Kind: Atom, Not: r.took("^")}
	seen := map[string]int{}
	for going := true; going; going = r.took(",") {
		at := r.c.Skip().At()
		word, err := r.word()
		if err != nil {
			return Expr{}, err
		}
		if seen[word]++; seen[word] > 1 {
			return Expr{}, oops.New(api.ErrTwice, at)
		}
	}
	x.Words = slices.Sorted(maps.Keys(seen))
	return x, r.take(']')
}

// word: the next one, behind blanks.
func (r *reader) word() (string, error) {
	c, word, err := readWord(r.c.Skip())
	if err == nil {
		r.c = c
	}
	return word, err
}

// took: was a sign taken, which may stand there?
func (r *reader) took(sign string) bool {
	c, ok := r.c.Skip().Has(sign)
	if ok {
		r.c = c
	}
	return ok
}

// take: a sign that must stand there.
func (r *reader) take(sign byte) error {
	c, err := r.c.Skip().Take(sign)
	if err == nil {
		r.c = c
	}
	return err
}

// count: one expression more, by what stands at a place.
func (r *reader) count(at int) error {
	r.size++
	if r.size > api.MaxNodes {
		return oops.New(api.ErrMany, at)
	}
	return nil
}

// begins: can a part stand there?
func begins(c scan.Scan) bool {
	switch c.Peek() {
	case '.', '[', '(', '$':
		return true
	}
	_, _, err := c.Name()
	return !oops.Is(err, api.ErrShort) && !oops.Is(err, api.ErrForm)
}

// readWord: behind a word.
func readWord(c scan.Scan) (scan.Scan, string, error) {
	next, ofKind := c.Has("$")
	next, _, err := next.Name()
	if pair, ok := next.Has("#"); ok && err == nil && !ofKind {
		next, _, err = pair.Name()
	}
	if err != nil {
		return c, "", err
	}
	return next, c.Rest()[:next.At()-c.At()], nil
}
