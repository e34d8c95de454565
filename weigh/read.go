package weigh

import (
	"fairlead/api"
	"fairlead/oops"
	"fairlead/scan"
)

// reader is how far a weight is read.
type reader struct {
	c     scan.Scan
	parts [3]uint64
	seen  [3]int // how often each word was met: its part may well be 0
}

// Parse: the weight of a text.
func Parse(s string) (Weight, error) {
	c, err := scan.New(s)
	if err != nil {
		return Weight{}, err
	}
	if isNought(c) {
		return Weight{}, nil
	}
	r := reader{c: c}
	if err := r.terms(); err != nil {
		return Weight{}, err
	}
	return of(r.parts), nil
}

// isNought: is 0 all that stands there?
func isNought(c scan.Scan) bool {
	c, ok := c.Skip().Has("0")
	return ok && c.Skip().End()
}

// terms: all up to the text's end, with + between.
func (r *reader) terms() error {
	for {
		if err := r.term(); err != nil {
			return err
		}
		if r.c = r.c.Skip(); r.c.End() {
			return nil
		}
		if err := r.sign('+'); err != nil {
			return err
		}
	}
}

// term: a word, and how much stands ahead of it.
func (r *reader) term() error {
	much, err := r.factor()
	if err != nil {
		return err
	}
	i, err := r.word()
	if err != nil {
		return err
	}
	r.parts[i] = much
	return nil
}

// factor: the number ahead of a star; 1, where none stands there.
func (r *reader) factor() (uint64, error) {
	from := r.c.Skip()
	if b := from.Peek(); b < '0' || b > '9' {
		return 1, nil
	}
	c, much, err := from.Number()
	if err != nil {
		return 0, err
	}
	if much > api.MaxWeight {
		return 0, oops.New(api.ErrRange, from.At())
	}
	r.c = c
	return much, r.sign('*')
}

// word: the part whose word stands there.
func (r *reader) word() (int, error) {
	from := r.c.Skip()
	c, name, err := from.Name()
	if err != nil {
		return 0, err
	}
	i := partOf(name)
	if i < 0 {
		return 0, oops.New(api.ErrWord, from.At())
	}
	if r.seen[i]++; r.seen[i] > 1 {
		return 0, oops.New(api.ErrTwice, from.At())
	}
	r.c = c
	return i, nil
}

// sign: one that must stand there.
func (r *reader) sign(b byte) error {
	c, err := r.c.Skip().Take(b)
	if err == nil {
		r.c = c
	}
	return err
}

// partOf: the number of the part that has a word; -1 of another word.
func partOf(word string) int {
	for i, w := range words {
		if w == word {
			return i
		}
	}
	return -1
}
