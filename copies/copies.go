// Package copies: machines that share no memory with others: the common ground of machine and collect.
package copies

import (
	"slices"

	"palisade/api"
)

// Bounds of what can be copied: the document's of things in one another, and of bytes in one answer, of which a term takes 48.
const (
	maxDeep  = 1 << 16
	maxParts = (1<<31 - 1) / 48
)

// Of a machine: one that shares no memory with it; false, if its answers are beyond all bounds. (Nothing is said of them when a machine is checked, and lists can be laid so that a term stands in its own arguments.)
func Of(m api.Machine) (api.Machine, bool) {
	if !bounded(m.Answers) {
		return api.Machine{}, false
	}
	m.Heap = slices.Clone(m.Heap)
	m.Goals = slices.Clone(m.Goals)
	m.Choices = slices.Clone(m.Choices)
	m.Trail = slices.Clone(m.Trail)
	m.Query = slices.Clone(m.Query)
	m.Answers = slices.Clone(m.Answers)
	for i, a := range m.Answers {
		m.Answers[i] = terms(a)
	}
	return m, true
}

// bounded: can answers be copied?
func bounded(answers []api.Answer) bool {
	n := maxParts
	for _, a := range answers {
		n = room(n, maxDeep, a)
		if n < 0 {
			return false
		}
	}
	return true
}

// room: how much of n is left behind all parts of terms that are at most so deep; below 0, if there are more than n, or they are deeper.
func room(n, deep int, terms []api.Term) int {
	for _, t := range terms {
		if n == 0 || deep == 0 {
			return -1
		}
		n = room(n-1, deep-1, t.Args)
		if n < 0 {
			return n
		}
	}
	return n
}

// terms that are new through and through.
func terms(l []api.Term) []api.Term {
	l = slices.Clone(l)
	for i, t := range l {
		l[i].Args = terms(t.Args)
	}
	return l
}
