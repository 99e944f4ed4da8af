package machine

import (
	"slices"
	"sort"

	"palisade/api"
	"palisade/heap"
)

// parts of a machine: the error of its heap, of how many there are, and of cells that are none.
func parts(m api.Machine) api.Errno {
	if e := heap.Check(m.Heap); e != api.OK {
		return e
	}
	if len(m.Goals) > api.MaxGoals || len(m.Query) > api.MaxVar {
		return api.ErrMany
	}
	none := func(at int) bool { return at < 0 || at >= len(m.Heap) }
	if slices.ContainsFunc(m.Goals, func(g api.Goal) bool { return none(g.At) }) {
		return api.ErrNone
	}
	if slices.ContainsFunc(m.Trail, none) || slices.ContainsFunc(m.Query, none) {
		return api.ErrNone
	}
	return api.OK
}

// within: is a number from one to another?
func within(n, from, to int) bool {
	return from <= n && n <= to
}

// ordered: does each goal lead to one ahead of it, and is the first one there?
func ordered(m api.Machine) bool {
	for i, g := range m.Goals {
		if !within(g.Next, 0, i) || g.Cut < 0 {
			return false
		}
	}
	return within(m.First, 0, len(m.Goals))
}

// grown: was a machine, of so many clauses, no longer at any choice than at the next one, and than it is now?
func grown(m api.Machine, clauses int) bool {
	var last api.Choice
	for _, c := range m.Choices {
		if !within(c.Heap, last.Heap, len(m.Heap)) || !within(c.Trail, last.Trail, len(m.Trail)) || !within(c.Goals, last.Goals, len(m.Goals)) {
			return false
		}
		if !within(c.Goal, 1, c.Goals) || !within(c.Clause, 0, clauses) {
			return false
		}
		last = c
	}
	return true
}

// lost: would something, gone back to a choice, be no cell any more? The choices have grown.
func lost(m api.Machine) bool {
	// Of all choices that lack a cell the last one is asked alone: it has the longest heap, trail and goals, so that whatever misses the cell at another one misses it there.
	lacking := func(at int) api.Choice {
		n := sort.Search(len(m.Choices), func(i int) bool { return m.Choices[i].Heap > at })
		if n == 0 {
			return api.Choice{}
		}
		return m.Choices[n-1]
	}
	for i, g := range m.Goals {
		if i < lacking(g.At).Goals {
			return true
		}
	}
	for i, at := range m.Trail {
		if i < lacking(at).Trail {
			return true
		}
	}
	for _, at := range m.Query {
		if len(m.Choices) > 0 && at >= m.Choices[0].Heap {
			return true
		}
	}
	bound := lastBound(m)
	for at, c := range m.Heap {
		choice := lacking(furthest(c, at))
		if at < choice.Heap && bound[at] < choice.Trail {
			return true
		}
	}
	return false
}

// furthest cell that the cell there leads to.
func furthest(c api.Cell, at int) int {
	if c.Kind == api.CellFn {
		return at + c.N
	}
	return c.N
}

// lastBound: where on the trail each cell stands last; -1, if it does not.
func lastBound(m api.Machine) []int {
	l := slices.Repeat([]int{-1}, len(m.Heap))
	for i, at := range m.Trail {
		l[at] = i
	}
	return l
}
