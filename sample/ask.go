package sample

import (
	"strings"

	"fairlead/net"
	"fairlead/query"
	"fairlead/trace"
)

// Query: the automata of a question's text over a network.
func Query(n net.Net, s string) query.Auto {
	q, err := query.Parse(s)
	if err != nil {
		panic(err) // a test is written wrongly
	}
	a, err := query.Of(n, q)
	if err != nil {
		panic(err) // a test is written wrongly
	}
	return a
}

// Ask: the text of any question about a network that Pick makes; most have paths of
// several links. As many links may have failed as is told.
func (p Pick) Ask(n net.Net, fails string) string {
	labels := []string{"a", "b", "m", "n", "s", "t", "$ip", "$smpls", "$mpls"}
	var links []string
	for _, l := range n.Topo.Links {
		links = append(links, l.Name, n.Topo.Routers[l.From]+"#"+n.Topo.Routers[l.To])
	}
	return "<" + p.expr(labels) + "> " + p.expr(links) + " <" + p.expr(labels) + "> " + fails
}

// Along: the text of a question that a trace answers, where as many links may have
// failed as is told.
func (p Pick) Along(n net.Net, t trace.Trace, fails string) string {
	var links []string
	for _, link := range t.Links {
		links = append(links, n.Topo.Links[link].Name)
	}
	labels := func(header []int) string {
		var words []string
		for _, label := range header {
			words = append(words, n.Labels[label].Name)
		}
		return p.loose(words)
	}
	last := len(t.Headers) - 1
	return "<" + labels(t.Headers[0]) + "> " + p.loose(links) + " <" + labels(t.Headers[last]) + "> " + fails
}

// loose: the text of an expression that has a row of words, and others.
func (p Pick) loose(words []string) string {
	if p(3) == 0 {
		return ".*"
	}
	for i, word := range words {
		words[i] = []string{word, word, word + "+", ".", ".*"}[p(5)]
	}
	return strings.Join(words, " ")
}

// expr: the text of any expression over some words, that has rows of several of them.
func (p Pick) expr(words []string) string {
	switch p(4) {
	case 0:
		return ".*"
	case 1:
		return p.part(words, 1) + " .*"
	case 2:
		return ".* " + p.part(words, 1)
	}
	return p.part(words, 3)
}

// part: the text of any expression over some words, of parts within one another up
// to a depth.
func (p Pick) part(words []string, deep int) string {
	if deep == 0 || p(4) == 0 {
		return []string{".", ".", words[p(len(words))], "[^" + words[p(len(words))] + "]"}[p(4)]
	}
	one, other := p.part(words, deep-1), p.part(words, deep-1)
	return []string{"(" + one + ")*", "(" + one + ")+", "(" + one + ")?", "(" + one + "|" + other + ")", one + " " + other, one + " " + other}[p(6)]
}
