// Package cover tells which of some sets are better taken apart into their members,
// where whatever is kept, be it a set or a member, takes room. (Layer 28 goes by it.)
package cover

// Split: of each set, is it to be taken apart? The sets that aren't, and the members
// of those that are, each once, are as few together as they can be; where there are
// several ways to that, fewer sets are taken apart. (Members are numbers from 0 on,
// below a bound.)
//
// A set, or each of its members: so what is kept covers all pairs of a set and a
// member. As few as can be do so as there are pairs of which no two have a set or a
// member in common: of each of these one side is kept.
func Split(sets [][]int, below int) []bool {
	m := matcher{sets: sets, matched: make([]bool, len(sets)), with: make([]int, below)}
	for member := range m.with {
		m.with[member] = none
	}
	for m.round() {
	}
	split := make([]bool, len(sets))
	for set := range sets {
		split[set] = !m.matched[set]
	}
	for member, set := range m.with {
		if set != none && m.seen[member] {
			split[set] = true
		}
	}
	return split
}

const none = -1

// matcher pairs sets with members, as many as it can.
type matcher struct {
	sets    [][]int
	matched []bool // of each set
	with    []int  // of each member the set with which it is paired
	seen    []bool // of each member: was it looked at in this round?
}

// round: one more look at all sets without a member; are there more pairs now? In
// the last round all is seen to which one comes from a set without a member.
func (m *matcher) round() bool {
	m.seen = make([]bool, len(m.with))
	more := false
	for set := range m.sets {
		if !m.matched[set] && m.match(set) {
			m.matched[set] = true
			more = true
		}
	}
	return more
}

// match: can a set have a member, if others change theirs?
func (m *matcher) match(set int) bool {
	for _, member := range m.sets[set] {
		if m.seen[member] {
			continue
		}
		m.seen[member] = true
		if m.with[member] == none || m.match(m.with[member]) {
			m.with[member] = set
			return true
		}
	}
	return false
}
