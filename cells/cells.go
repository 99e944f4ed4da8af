// Package cells: terms that stand on a heap, and making two of them the same there: the common ground of heap, machine and collect. Whoever calls has checked the heap, and hands in cells that are there.
package cells

import (
	"iter"

	"palisade/api"
)

// Free: a variable that is nothing yet, at a cell.
func Free(at int) api.Cell {
	return api.Cell{Kind: api.CellRef, N: at}
}

// Leads: which cells a cell leads to: a CellRef to another one, a CellFn to those behind it.
func Leads(h []api.Cell, at int) iter.Seq[int] {
	return func(yield func(int) bool) {
		c := h[at]
		if c.Kind == api.CellFn {
			for i := range c.N {
				if !yield(at + 1 + i) {
					return
				}
			}
		} else if c.N != at {
			yield(c.N)
		}
	}
}

// far: how many cells are gone through, one to the next, till their end is noted.
const far = 16

// View of a heap on which variables become something, but nothing is taken back. Where cells lead to is noted if it is far, because a heap can be one long line, which would be gone through for each part of a term.
type View struct {
	heap []api.Cell
	ends map[int]int
}

// On a heap: a view.
func On(h []api.Cell) *View {
	return &View{heap: h, ends: map[int]int{}}
}

// Deref: where CellRefs lead to.
func (v *View) Deref(at int) int {
	end := at
	for n := 0; ; n++ {
		to := v.next(end)
		if to == end {
			if n > far {
				v.note(at, end)
			}
			return end
		}
		end = to
	}
}

// next: where a cell leads to, or its end as it was noted; itself, if it is no CellRef to another one.
func (v *View) next(at int) int {
	c := v.heap[at]
	if c.Kind == api.CellFn {
		return at
	}
	if to, ok := v.ends[at]; ok {
		return to
	}
	return c.N
}

// note the end of all cells on the way from one.
func (v *View) note(at, end int) {
	for at != end {
		to := v.next(at)
		v.ends[at] = end
		at = to
	}
}

// args: the cells of the arguments of what stands at a cell; a variable has none.
func (v *View) args(at int) iter.Seq[int] {
	return Leads(v.heap, v.Deref(at))
}

// Room: how much of n is left behind all parts of what stands at cells; below 0, if there are more than n.
// It counts no further than that, because few cells can be a term of very many parts.
func (v *View) Room(n int, all iter.Seq[int]) int {
	for at := range all {
		if n == 0 {
			return -1
		}
		n = v.Room(n-1, v.args(at))
		if n < 0 {
			return n
		}
	}
	return n
}

// Read the term at a cell; its variables have the number that a function tells of their cell.
func (v *View) Read(at int, number func(at int) int) api.Term {
	at = v.Deref(at)
	if v.heap[at].Kind == api.CellRef {
		return api.Term{Var: number(at)}
	}
	t := api.Term{Name: v.heap[at].Name}
	for arg := range Leads(v.heap, at) {
		t.Args = append(t.Args, v.Read(arg, number))
	}
	return t
}

// Names of variables: numbers from 1 on, as they are first asked for.
type Names struct {
	numbers map[int]int
	Cells   []int // of the variables, in order
}

// NewNames: no variable has a number yet.
func NewNames() *Names {
	return &Names{numbers: map[int]int{}}
}

// Number of the variable at a cell.
func (n *Names) Number(at int) int {
	if n.numbers[at] == 0 {
		n.Cells = append(n.Cells, at)
		n.numbers[at] = len(n.Cells)
	}
	return n.numbers[at]
}

// Put a term behind a heap: the heap, which may be longer than MaxHeap then, and where the term stands. The cells of variables lie in the map, and new ones are laid there.
func Put(h []api.Cell, t api.Term, vars map[int]int) ([]api.Cell, int) {
	if t.Var != 0 {
		return putVar(h, t.Var, vars)
	}
	at := len(h)
	h = append(h, api.Cell{Kind: api.CellFn, N: len(t.Args), Name: t.Name})
	for i := range t.Args {
		h = append(h, Free(at+1+i))
	}
	for i, arg := range t.Args {
		var to int
		h, to = Put(h, arg, vars)
		h[at+1+i].N = to
	}
	return h, at
}

// putVar: a variable has one cell, however often it stands there.
func putVar(h []api.Cell, n int, vars map[int]int) ([]api.Cell, int) {
	at, ok := vars[n]
	if ok {
		return h, at
	}
	at = len(h)
	vars[n] = at
	return append(h, Free(at)), at
}
