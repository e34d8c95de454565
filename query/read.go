package query

import (
	"errors"

	"fairlead/api"
	"fairlead/oops"
	"fairlead/regex"
	"fairlead/scan"
)

// reader is how far a query is read, and what was met that is wrong; from there
// on it stands still.
type reader struct {
	c   scan.Scan
	err error
}

// Parse: the query of a text.
func Parse(s string) (Query, error) {
	c, err := scan.New(s)
	r := reader{c: c, err: err}
	var q Query
	q.Start = r.bracketed(inStart)
	q.Path = r.expr(inPath)
	q.End = r.bracketed(inEnd)
	q.Fails = r.fails()
	r.end()
	if r.err != nil {
		return Query{}, r.err
	}
	return q, nil
}

// bracketed: an expression between < and >.
func (r *reader) bracketed(in string) regex.Expr {
	r.sign('<')
	x := r.expr(in)
	r.sign('>')
	return x
}

// expr: the expression that stands there.
func (r *reader) expr(in string) regex.Expr {
	if r.err != nil {
		return regex.Expr{}
	}
	c, x, err := regex.Read(r.c)
	r.c, r.err = c, oops.In(in, err)
	return x
}

// sign: one that must stand there.
func (r *reader) sign(b byte) {
	if r.err == nil {
		r.c, r.err = r.c.Skip().Take(b)
	}
}

// fails: how many links may have failed.
func (r *reader) fails() uint64 {
	if r.err != nil {
		return 0
	}
	from := r.c.Skip()
	c, n, err := from.Number()
	var code api.Errno
	if !errors.As(err, &code) && n > api.MaxThings {
		code = api.ErrRange
	}
	r.c, r.err = c, oops.In(inFails, oops.New(code, from.At()))
	return n
}

// end: that nothing but blanks stands there any more.
func (r *reader) end() {
	if r.err != nil {
		return
	}
	if r.c = r.c.Skip(); !r.c.End() {
		r.err = oops.New(api.ErrForm, r.c.At())
	}
}
