package weigh_test

import (
	"math/rand"
	"regexp"
	"strconv"
	"strings"
	"testing"

	"fairlead/api"
	"fairlead/oops"
	"fairlead/weigh"
)

const (
	termForm  = `(?:(0|[1-9][0-9]*)[ \t\r\n]*\*[ \t\r\n]*)?([a-zA-Z_][a-zA-Z0-9_.-]*)`
	wholeForm = `^[ \t\r\n]*` + termForm + `(?:[ \t\r\n]*\+[ \t\r\n]*` + termForm + `)*[ \t\r\n]*$`
)

var (
	termText  = regexp.MustCompile(termForm)
	wholeText = regexp.MustCompile(wholeForm)
)

// told: the weight that a text tells, if it tells one: another way to read it.
func told(s string) (weigh.Weight, bool) {
	if strings.Trim(s, " \t\r\n") == "0" {
		return weigh.Weight{}, true
	}
	if !wholeText.MatchString(s) {
		return weigh.Weight{}, false
	}
	parts := map[string]uint64{}
	for _, m := range termText.FindAllStringSubmatch(s, -1) {
		much := uint64(1)
		if m[1] != "" {
			much, _ = strconv.ParseUint(m[1], 10, 64)
		}
		if _, ok := parts[m[2]]; ok || much > api.MaxWeight {
			return weigh.Weight{}, false
		}
		parts[m[2]] = much
	}
	w := weigh.Weight{parts["hops"], parts["dist"], parts["pushes"]}
	for _, word := range []string{"hops", "dist", "pushes"} {
		delete(parts, word)
	}
	if len(parts) > 0 {
		return weigh.Weight{}, false
	}
	return w, true
}

// P20.2, P4: whatever a text is: its weight, or an error with a place in it.
func TestParseAny(t *testing.T) {
	rnd := rand.New(rand.NewSource(202))
	pieces := []string{
		"hops", "dist", "pushes", "hops", "dist", "pushes", "+", "+", "+", "+", "*", "*", "*",
		"0", "1", "2", "35", "1000000", "1000001", "0", " ", " ", "\n", "x", "?", "-", "00",
	}
	good := 0
	for range 200000 {
		var s string
		for range 1 + rnd.Intn(9) {
			s += pieces[rnd.Intn(len(pieces))]
		}
		w, err := weigh.Parse(s)
		want, ok := told(s)
		if check(t, strconv.Quote(s), w, want); ok {
			good++
			checkNil(t, strconv.Quote(s), err)
			continue
		}
		if err == nil || oops.At(err) < 0 || oops.At(err) > len(s) || len(oops.Words(err)) > 0 {
			t.Errorf("%q: %v", s, err)
		}
		check(t, strconv.Quote(s)+": does it end too early?", oops.Is(err, api.ErrShort), oops.At(err) == len(s))
	}
	if good < 1000 {
		t.Errorf("only %d texts tell a weight", good)
	}
}
