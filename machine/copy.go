package machine

import (
	"slices"

	"palisade/api"
)

// Bounds of what can be copied: the document's of things in one another, and of bytes in one answer, of which a term takes 48.
const (
	maxDeep  = 1 << 16
	maxParts = (1<<31 - 1) / 48
)

// bounded: can answers be copied? Nothing is said of those of a machine, and lists can be laid so that a term stands in its own arguments.
func bounded(answers []api.Answer) bool {
	n := maxParts
	for _, a := range answers {
		n = room(n, maxDeep, a)
		if n < 0 {
			return false
		}
	}
	return true
}

// room: how much of n is left behind all parts of terms that are at most so deep; below 0, if there are more than n, or they are deeper.
func room(n, deep int, terms []api.Term) int {
	for _, t := range terms {
		if n == 0 || deep == 0 {
			return -1
		}
		n = room(n-1, deep-1, t.Args)
		if n < 0 {
			return n
		}
	}
	return n
}

// copied: a machine that shares no memory with another.
func copied(m api.Machine) api.Machine {
	m.Heap = slices.Clone(m.Heap)
	m.Goals = slices.Clone(m.Goals)
	m.Choices = slices.Clone(m.Choices)
	m.Trail = slices.Clone(m.Trail)
	m.Query = slices.Clone(m.Query)
	var l []api.Answer
	for _, a := range m.Answers {
		l = append(l, terms(a))
	}
	m.Answers = l
	return m
}

// terms that are new through and through.
func terms(l []api.Term) []api.Term {
	l = slices.Clone(l)
	for i, t := range l {
		l[i].Args = terms(t.Args)
	}
	return l
}
