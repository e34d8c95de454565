package build

import (
	"slices"

	"fairlead/bits"
	"fairlead/nfa"
	"fairlead/pds"
)

// maker makes a model.
type maker struct {
	paths nfa.NFA
	mode  Mode
	kinds []int
	ways  [][]way // of each link
	left  map[rest]seat
	free  seat // the next one from which a word may be laid on
	model Model
}

// rest is what is left to be done on the way to a place: labels to be taken away,
// and to be laid on, as in a way.
type rest struct {
	to         int
	deep, word string
}

// seat is where something is left to be done: a state, and, where there are only
// labels to be laid on, a label on top. That one tells what is left, as the state
// does, so that few states are enough for all that may be left.
type seat struct{ state, top int }

// begin: the places by a link that are starts.
func (m *maker) begin(link int, cost uint64) {
	if m.mode.Kind == Fixed && m.mode.Failed.Has(link) {
		return
	}
	for _, at := range m.paths.Next[0] {
		if m.paths.On[at].Has(link) {
			m.model.starts = append(m.model.starts, m.place(Place{Link: link, At: at}))
			m.model.costs = append(m.model.costs, cost)
		}
	}
}

// goOn: the rules by which one comes on from a state, if it is a place.
func (m *maker) goOn(state int) {
	from, ok := m.model.Place(state)
	if !ok {
		return
	}
	for _, w := range m.ways[from.Link] {
		fails, ok := m.mode.lets(from, w)
		if !ok {
			continue
		}
		for _, at := range m.paths.Next[from.At] {
			if m.paths.On[at].Has(w.out) {
				m.do(state, w, m.place(Place{Link: w.out, At: at, Fails: fails}))
			}
		}
	}
}

// lets: may a way be gone by, and how many links are counted as failed behind it?
func (m Mode) lets(from Place, w way) (int, bool) {
	counted, fails := 0, w.needs.Len()
	switch m.Kind {
	case Under:
		fails += from.Fails
		counted = fails
		fallthrough
	case Over:
		return counted, fails <= m.Fails && !w.needs.Has(from.Link) && !w.needs.Has(w.out)
	}
	return 0, w.active && !m.Failed.Has(w.out)
}

// place: its state.
func (m *maker) place(p Place) int {
	if s, ok := m.model.states[p]; ok {
		return s
	}
	s := m.state(p)
	m.model.states[p] = s
	if m.paths.Final[p.At] {
		m.model.ends = append(m.model.ends, s)
	}
	return s
}

// state: a new one, of a place, or, of the zero one, of none.
func (m *maker) state(p Place) int {
	m.model.places = append(m.model.places, p)
	return len(m.model.places) - 1
}

// do: the rules that go by a way, from a state to a place's.
func (m *maker) do(from int, w way, to int) {
	rule := pds.Rule{From: from, Top: w.top, To: to, Cost: w.cost}
	switch {
	case w.deep != "":
		rule.To = m.dig(rest{to: to, deep: w.deep, word: w.word})
	case len(w.word) > 2:
		at := m.lay(rest{to: to, word: w.word[1:]})
		rule.To, rule.Push = at.state, []int{at.top, int(w.word[0])}
	default:
		for _, label := range slices.Backward([]byte(w.word)) {
			rule.Push = append(rule.Push, int(label))
		}
	}
	m.model.system.Rules = append(m.model.system.Rules, rule)
	m.model.needs = append(m.model.needs, w.needs)
}

// dig: the state from which labels are taken away.
func (m *maker) dig(r rest) int {
	if at, ok := m.left[r]; ok {
		return at.state
	}
	s := m.state(Place{})
	m.left[r] = seat{state: s}
	kinds := bits.Set{uint64(r.deep[0])}
	for label, kind := range m.kinds {
		if kinds.Has(kind) {
			w := way{top: label, deep: r.deep[1:], word: r.word}
			if w.deep == "" {
				w.word = known(w.word, label)
			}
			m.do(s, w, r.to)
		}
	}
	return s
}

// known: a word, with the label that was taken away last.
func known(word string, last int) string {
	if word != "" && word[0] == same {
		return string([]byte{byte(last)}) + word[1:]
	}
	return word
}

// lay: the seat from which a word is laid on.
func (m *maker) lay(r rest) seat {
	if at, ok := m.left[r]; ok {
		return at
	}
	if m.free.top == len(m.kinds) {
		m.free = seat{state: m.state(Place{})}
	}
	at := m.free
	m.free.top++
	m.left[r] = at
	m.do(at.state, way{top: at.top, word: r.word}, r.to)
	return at
}
