package pds

import (
	"slices"

	"fairlead/amount"
	"fairlead/api"
	"fairlead/oops"
)

// standing is a configuration while rules are done to it: its stack has the top
// last, so that a rule changes the end of the list alone.
type standing struct {
	state int
	stack []int
}

// stand: the configuration, in memory of its own.
func stand(c Config) standing { return standing{state: c.State, stack: turned(c.Stack)} }

// config: what it is, in memory of its own.
func (p standing) config() Config { return Config{State: p.state, Stack: turned(p.stack)} }

// turned: a new list, the other way round.
func turned(l []int) []int {
	l = slices.Clone(l)
	slices.Reverse(l)
	return l
}

// fits: can the rule be done?
func (p standing) fits(r Rule) bool {
	last := len(p.stack) - 1
	return last >= 0 && p.state == r.From && p.stack[last] == r.Top
}

// do: a rule that fits.
func (p *standing) do(r Rule) {
	p.state = r.To
	p.stack = p.stack[:len(p.stack)-1]
	for _, label := range slices.Backward(r.Push) {
		p.stack = append(p.stack, label)
	}
}

// Steps: the rules that can be done.
func (s System) Steps(c Config) []int {
	var places []int
	now := stand(c)
	for at, r := range s.Rules {
		if now.fits(r) {
			places = append(places, at)
		}
	}
	return places
}

// Do: a run.
func (s System) Do(c Config, rules ...int) (Config, uint64, error) {
	now, cost := stand(c), uint64(0)
	for at, place := range rules {
		switch {
		case !isBelow(len(s.Rules), place):
			return now.config(), cost, oops.New(api.ErrNone, at)
		case !now.fits(s.Rules[place]):
			return now.config(), cost, oops.New(api.ErrStep, at)
		}
		now.do(s.Rules[place])
		cost = amount.Add(cost, s.Rules[place].Cost)
	}
	return now.config(), cost, nil
}
