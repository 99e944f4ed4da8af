// Package cells: terms that stand on a heap, and making two of them the same there: the common ground of heap and machine. Whoever calls has checked the heap, and hands in cells that are there.
package cells

import (
	"iter"

	"palisade/api"
)

// Free: a variable that is nothing yet, at a cell.
func Free(at int) api.Cell {
	return api.Cell{Kind: api.CellRef, N: at}
}

// Leads: which cells a cell leads to: a CellRef to another one, a CellFn to those behind it.
func Leads(h []api.Cell, at int) iter.Seq[int] {
	return func(yield func(int) bool) {
		c := h[at]
		if c.Kind == api.CellFn {
			for i := range c.N {
				if !yield(at + 1 + i) {
					return
				}
			}
		} else if c.N != at {
			yield(c.N)
		}
	}
}

// Deref: where CellRefs lead to.
func Deref(h []api.Cell, at int) int {
	for h[at].Kind == api.CellRef && h[at].N != at {
		at = h[at].N
	}
	return at
}

// args: the cells of the arguments of what stands at a cell; a variable has none.
func args(h []api.Cell, at int) iter.Seq[int] {
	return Leads(h, Deref(h, at))
}

// Room: how much of n is left behind all parts of what stands at cells; below 0, if there are more than n.
// It counts no further than that, because few cells can be a term of very many parts.
func Room(h []api.Cell, n int, all iter.Seq[int]) int {
	for at := range all {
		if n == 0 {
			return -1
		}
		n = Room(h, n-1, args(h, at))
		if n < 0 {
			return n
		}
	}
	return n
}

// Read the term at a cell; its variables have the number that a function tells of their cell.
func Read(h []api.Cell, at int, number func(at int) int) api.Term {
	at = Deref(h, at)
	if h[at].Kind == api.CellRef {
		return api.Term{Var: number(at)}
	}
	t := api.Term{Name: h[at].Name}
	for arg := range Leads(h, at) {
		t.Args = append(t.Args, Read(h, arg, number))
	}
	return t
}

// Names of variables: numbers from 1 on, as they are first asked for.
type Names struct {
	numbers map[int]int
	Cells   []int // of the variables, in order
}

// NewNames: no variable has a number yet.
func NewNames() *Names {
	return &Names{numbers: map[int]int{}}
}

// Number of the variable at a cell.
func (n *Names) Number(at int) int {
	if n.numbers[at] == 0 {
		n.Cells = append(n.Cells, at)
		n.numbers[at] = len(n.Cells)
	}
	return n.numbers[at]
}

// Put a term behind a heap: the heap, which may be longer than MaxHeap then, and where the term stands. The cells of variables lie in the map, and new ones are laid there.
func Put(h []api.Cell, t api.Term, vars map[int]int) ([]api.Cell, int) {
	if t.Var != 0 {
		return putVar(h, t.Var, vars)
	}
	at := len(h)
	h = append(h, api.Cell{Kind: api.CellFn, N: len(t.Args), Name: t.Name})
	for i := range t.Args {
		h = append(h, Free(at+1+i))
	}
	for i, arg := range t.Args {
		var to int
		h, to = Put(h, arg, vars)
		h[at+1+i].N = to
	}
	return h, at
}

// putVar: a variable has one cell, however often it stands there.
func putVar(h []api.Cell, n int, vars map[int]int) ([]api.Cell, int) {
	at, ok := vars[n]
	if ok {
		return h, at
	}
	at = len(h)
	vars[n] = at
	return append(h, Free(at)), at
}
