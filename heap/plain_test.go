package heap_test

import (
	"fmt"
	"math/rand"
	"slices"
	"testing"

	"palisade/api"
	"palisade/heap"
	"palisade/unify"
)

// A heap by the plainest means: every way is followed till it ends, or comes back to where it was.

// behind a cell: where it leads to.
func behind(h []api.Cell, at int) []int {
	c := h[at]
	if c.Kind == api.CellFn {
		return []int{at + 1, at + 2, at + 3, at + 4}[:c.N]
	}
	if c.N == at {
		return nil
	}
	return []int{c.N}
}

// returns: does a way from a cell come back to a cell that it has passed?
func returns(h []api.Cell, way []int, at int) bool {
	if slices.Contains(way, at) {
		return true
	}
	way = append(slices.Clone(way), at)
	return slices.ContainsFunc(behind(h, at), func(to int) bool { return returns(h, way, to) })
}

// plainCell: the error of one cell.
func plainCell(h []api.Cell, at int) api.Errno {
	c := h[at]
	there := func(n int) bool { return 0 <= n && n < len(h) }
	names := []string{"a", "f", "g", "!"} // of those that are drawn
	switch {
	case c.Kind == api.CellRef && !there(c.N):
		return api.ErrNone
	case c.Kind == api.CellRef && c.Name != "":
		return api.ErrForm
	case c.Kind == api.CellRef:
		return api.OK
	case c.Kind != api.CellFn || !slices.Contains(names, c.Name) || c.N < 0 || c.N > 4 || c.Name == "!" && c.N > 0:
		return api.ErrForm
	case !there(at + c.N):
		return api.ErrNone
	}
	for _, to := range behind(h, at) {
		if h[to].Kind != api.CellRef {
			return api.ErrForm
		}
	}
	return api.OK
}

// plainCheck: what Check must answer.
func plainCheck(h []api.Cell) api.Errno {
	for at := range h {
		if e := plainCell(h, at); e != api.OK {
			return e
		}
	}
	for at := range h {
		if returns(h, nil, at) {
			return api.ErrState
		}
	}
	return api.OK
}

// plainRead: the term at a cell; its variables have their places in a list of cells, from 1 on.
func plainRead(h []api.Cell, at int, vars []int) api.Term {
	to := behind(h, at)
	if h[at].Kind == api.CellRef {
		if len(to) > 0 {
			return plainRead(h, to[0], vars)
		}
		return api.Term{Var: 1 + slices.Index(vars, at)}
	}
	t := api.Term{Name: h[at].Name}
	for _, n := range to {
		t.Args = append(t.Args, plainRead(h, n, vars))
	}
	return t
}

// parts: how many a term has.
func parts(t api.Term) int {
	n := 1
	for _, a := range t.Args {
		n += parts(a)
	}
	return n
}

// dice draw heaps.
type dice struct{ *rand.Rand }

// cells of a heap: whole terms, and now and then (the more seldom, the greater the number) what is wrong.
func (d dice) cells(n, seldom int) []api.Cell {
	var h []api.Cell
	for len(h) < n {
		if d.Intn(2) == 0 {
			h = append(h, ref(len(h)))
			continue
		}
		f := fn([]string{"a", "f", "g"}[d.Intn(3)], d.Intn(4))
		h = append(h, f)
		for range f.N {
			h = append(h, ref(len(h)))
		}
	}
	for at := range h {
		if h[at].Kind == api.CellRef && d.Intn(2) == 0 {
			h[at].N = d.Intn(len(h))
		}
		switch d.Intn(7 * seldom) {
		case 0:
			h[at].N = d.Intn(len(h)+3) - 1
		case 1:
			h[at].Name = []string{"", "a", "!", "A"}[d.Intn(4)]
		case 2:
			h[at].Kind = d.Intn(4)
		}
	}
	return h
}

// stretched: the same heap, but that some cells lead where they do by way of long lines, into which others come from the side.
func (d dice) stretched(h []api.Cell) []api.Cell {
	lines := len(h)
	for at := range lines {
		if h[at].Kind != api.CellRef || h[at].N == at || d.Intn(2) == 0 {
			continue
		}
		to := h[at].N
		for range 10 + d.Intn(30) {
			h = append(h, ref(to))
			to = len(h) - 1
		}
		h[at].N = to
	}
	for range d.Intn(4) {
		h = append(h, ref(d.Intn(len(h))))
	}
	return h
}

// TestCheckHeldAgainstPlain: E1 on heaps that are drawn.
func TestCheckHeldAgainstPlain(t *testing.T) {
	d := dice{rand.New(rand.NewSource(7))}
	seen := map[api.Errno]int{}
	for i := range 60000 {
		h := d.cells(d.Intn(9), 1+i%5*20)
		want := plainCheck(h)
		seen[want]++
		if e := heap.Check(h); e != want {
			t.Fatalf("E1: %v: error %d, and must be %d", h, e, want)
		}
	}
	if seen[api.OK] < 5000 || seen[api.ErrForm] < 5000 || seen[api.ErrNone] < 1000 || seen[api.ErrState] < 5000 {
		t.Errorf("what was drawn is too much alike: %v", seen)
	}
}

// variables of a heap: the cells that are at themselves.
func variables(h []api.Cell) []int {
	var l []int
	for at, c := range h {
		if c == ref(at) {
			l = append(l, at)
		}
	}
	return l
}

// TestUnifyHeldAgainstTerms: E4, E5: what chapter 3 says of the terms at two cells, a heap says of the cells; variables have their numbers in the order of their cells.
func TestUnifyHeldAgainstTerms(t *testing.T) {
	d := dice{rand.New(rand.NewSource(8))}
	yes, no := 0, 0
	for i := range 40000 {
		h := d.cells(2+d.Intn(11), 1000)
		if i%2 == 0 {
			h = d.stretched(h)
		}
		vars := variables(h)
		a, b := d.Intn(len(h)), d.Intn(len(h))
		if heap.Check(h) != api.OK || len(vars) > api.MaxVar {
			continue
		}
		x, y := plainRead(h, a, vars), plainRead(h, b, vars)
		if parts(x) > api.MaxSize || parts(y) > api.MaxSize {
			continue
		}
		is, wantOK, wantWork, want := unify.Unify(x, y)
		after, bound, ok, work, e := heap.Unify(h, a, b)
		if ok != wantOK || work != wantWork || e != want {
			t.Fatalf("E5: %v, %d and %d: %v, work %d, error %d, and must be %v, work %d, error %d", h, a, b, ok, work, e, wantOK, wantWork, want)
		}
		if !ok {
			no++
			continue
		}
		yes++
		heldBound(t, h, after, bound)
		for i, at := range vars {
			if got := plainRead(after, at, vars); fmt.Sprint(got) != fmt.Sprint(is[i]) {
				t.Fatalf("E5: %v, %d and %d: cell %d is %v, and must be %v", h, a, b, at, got, is[i])
			}
		}
	}
	if yes < 5000 || no < 5000 {
		t.Errorf("what was drawn is too much alike: %d are the same, %d are not", yes, no)
	}
}

// heldBound: only variables were bound, each of them once, and all that were are told.
func heldBound(t *testing.T, h, after []api.Cell, bound []int) {
	if heap.Check(after) != api.OK || len(after) != len(h) {
		t.Fatalf("E4: %v was %v", after, h)
	}
	n := 0
	for at, c := range h {
		if after[at] == c {
			continue
		}
		n++
		to := after[at].N
		if c != ref(at) || after[at].Kind != api.CellRef || !slices.Contains(bound, at) || h[to] == ref(to) && to > at {
			t.Fatalf("E4: %v was %v, and %v were bound", after, h, bound)
		}
	}
	if n != len(bound) {
		t.Fatalf("E4: %v was %v, and %v were bound", after, h, bound)
	}
}

// TestReadHeldAgainstPlain: E2 on heaps that are drawn.
func TestReadHeldAgainstPlain(t *testing.T) {
	d := dice{rand.New(rand.NewSource(9))}
	for i := range 5000 {
		h := d.cells(1+d.Intn(11), 1000)
		if i%2 == 0 {
			h = d.stretched(h)
		}
		if heap.Check(h) != api.OK {
			continue
		}
		for at := range h {
			x, l, e := heap.Read(h, at)
			if many := parts(plainRead(h, at, variables(h))) > api.MaxShow; many != (e == api.ErrMany) {
				t.Fatalf("E2: %v at %d: error %d", h, at, e)
			}
			if e != api.OK {
				continue
			}
			if want := plainRead(h, at, l); fmt.Sprint(x) != fmt.Sprint(want) {
				t.Fatalf("E2: %v at %d: %v, and must be %v", h, at, x, want)
			}
			if last := 0; !inOrder(x, &last) || last != len(l) {
				t.Fatalf("E2: %v at %d: %v, not numbered from 1 to %d as they first stand there", h, at, x, len(l))
			}
		}
	}
}

// inOrder: is each variable, as they first stand in a term, the next number?
func inOrder(t api.Term, last *int) bool {
	if t.Var > *last+1 {
		return false
	}
	*last = max(*last, t.Var)
	for _, a := range t.Args {
		if !inOrder(a, last) {
			return false
		}
	}
	return true
}
