package edges_test

import (
	"math"
	"testing"

	"fairlead/api"
	"fairlead/edges"
	"fairlead/oops"
	"fairlead/paut"
	"fairlead/pds"
	"fairlead/sample"
)

func check[T comparable](t *testing.T, what string, got, want T) {
	t.Helper()
	if got != want {
		t.Errorf("%s: got %v, want %v", what, got, want)
	}
}

// What package sample makes, and tells.
var (
	config   = sample.Config
	edge     = sample.Edge
	made     = sample.Auto
	autoText = sample.AutoText
)

// rest: the places that are still told.
func rest(g *edges.Growing) string {
	var places []int
	for at := range g.Told() {
		places = append(places, at)
	}
	return sample.Numbers(places)
}

// Each edge is there once, at its least cost, as the first one came that costs that.
func TestPut(t *testing.T) {
	g := edges.Grow(2, 4, []int{1, 3})
	for i, e := range []paut.Edge{edge(0, 1, 2, 5), edge(0, 1, 3, 2), edge(0, 1, 2, 4), edge(0, 1, 2, 4), edge(0, 1, 2, 9), edge(0, -1, 2, 2), edge(2, 1, 2, 0)} {
		g.Put(e, edges.Origin{How: i})
	}
	check(t, "all", autoText(g.Auto), "2 4; 0 1 2 4; 0 1 3 2; 0 -1 2 2; 2 1 2 0; 1 3")
	var how []int
	for _, o := range g.Origins {
		how = append(how, o.How)
	}
	check(t, "how they came", sample.Numbers(how), "2 1 5 6")
	check(t, "told", rest(&g), "3 1 2 0")
	check(t, "told once", rest(&g), "")
	g.Put(edge(0, 1, 2, 4), edges.Origin{})
	check(t, "no less", rest(&g), "")
	g.Put(edge(0, 1, 2, 3), edges.Origin{})
	check(t, "less", rest(&g), "0")
}

// What is put while edges are told is told, too, in its turn; and one may stop.
func TestTold(t *testing.T) {
	g := edges.Grow(1, 3, nil)
	g.Put(edge(0, 0, 1, 5), edges.Origin{})
	g.Put(edge(0, 0, 2, 9), edges.Origin{})
	var places []int
	for at := range g.Told() {
		places = append(places, at)
		if at == 0 {
			g.Put(edge(1, 0, 1, 7), edges.Origin{})
			g.Put(edge(0, 0, 2, 6), edges.Origin{})
		}
		if at == 1 {
			break
		}
	}
	check(t, "so far", sample.Numbers(places), "0 1")
	check(t, "what is left", rest(&g), "2")
}

// Paths, as far as there are any, and are short enough.
func TestPath(t *testing.T) {
	g := edges.Grow(1, 3, []int{2})
	g.Put(edge(0, 0, 1, 1), edges.Origin{Steps: 2})
	g.Put(edge(1, 0, 1, 1), edges.Origin{Steps: 3})
	g.Put(edge(1, 1, 2, 1), edges.Origin{})
	g.Put(edge(0, 2, 2, 1), edges.Origin{Steps: api.MaxCost})
	g.Put(edge(0, 3, 2, 1), edges.Origin{Steps: 1<<31 - 1})
	g.Put(edge(0, 4, 2, 1), edges.Origin{Steps: 1 << 31})
	path := func(stack string, most int) string {
		places, err := g.Path(config(0, stack), most)
		if err != nil {
			check(t, "nothing beside it", len(places), 0)
			return err.Error()
		}
		return sample.Numbers(places)
	}
	check(t, "short enough", path("0 0 0 1", 8), "0 1 1 2")
	check(t, "too long", path("0 0 0 1", 7), "error 5 at 7")
	check(t, "below 0", path("0 1", -7), "error 5 at 0")
	check(t, "not there", path("0 2", 99), "error 11 at 0")
	check(t, "as many as are told", path("3", math.MaxInt), "4")
	check(t, "more than are told", path("4", math.MaxInt), oops.New(api.ErrLong, math.MaxInt).Error())
	check(t, "far more", path("2", 1<<40), "error 5 at 1099511627776")
}

// A copy, and what grows on, share nothing.
func TestCopy(t *testing.T) {
	final := []int{0}
	g := edges.Grow(1, 2, final)
	g.Put(edge(0, 0, 1, 5), edges.Origin{})
	final[0] = 1
	a := g.Copy()
	a.Edges[0].Cost, a.Final[0] = 7, 1
	check(t, "what grows", autoText(g.Auto), "1 2; 0 0 1 5; 0")
	check(t, "of none", autoText(edges.Made{}.Copy()), "0 0; ")
}

// Whether a system and an automaton go together.
func TestFit(t *testing.T) {
	s := sample.System(2, 3, sample.Rule(0, 2, 1, "0 0", 5))
	a := made(2, 3, "1 2", edge(0, 2, 2, 0))
	check(t, "they do", edges.Fit(s, a), true)
	check(t, "none", edges.Fit(pds.System{}, paut.Auto{}), true)
	for what, bad := range map[string]paut.Auto{
		"another Base":         made(1, 3, ""),
		"not plain":            made(2, 3, "", edge(0, -1, 2, 0)),
		"to a system's state":  made(2, 3, "", edge(0, 1, 1, 0)),
		"one that may not be":  made(2, 3, "2 2"),
		"an edge to no state":  made(2, 3, "", edge(0, 1, 3, 0)),
		"fewer states than it": made(2, 1, ""),
	} {
		check(t, what, edges.Fit(s, bad), false)
	}
	s.Rules[0].Push = []int{0, 0, 0}
	check(t, "a system that may not be", edges.Fit(s, a), false)
}
