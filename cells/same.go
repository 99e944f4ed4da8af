package cells

import "palisade/api"

// making two terms the same: on which heap, which cells were bound, and how much work is left.
type making struct {
	*View
	bound []int
	left  int
}

// Same: what stands at two cells is made the same, on this heap: the cells that were bound, in order; false, if that can't be; how much work was done (more than most, if that is why it can't be: it is done no further).
// What was bound till then stays: who goes on goes back.
func Same(h []api.Cell, a, b, most int) ([]int, bool, int) {
	m := &making{View: On(h), left: most}
	ok := m.same(a, b)
	return m.bound, ok, most - m.left
}

// look at a pair, or at a part: may it be done?
func (m *making) look() bool {
	m.left--
	return m.left >= 0
}

// same: a pair of terms.
func (m *making) same(a, b int) bool {
	a, b = m.Deref(a), m.Deref(b)
	s, t := m.heap[a], m.heap[b]
	switch {
	case !m.look():
		return false
	case s.Kind == api.CellRef && a == b:
		return true
	case s.Kind == api.CellRef:
		return m.bind(a, b)
	case t.Kind == api.CellRef:
		return m.bind(b, a)
	case s != t:
		return false
	}
	for i := range s.N {
		if !m.same(a+1+i, b+1+i) {
			return false
		}
	}
	return true
}

// bind the variable at a cell to what it does not stand in.
func (m *making) bind(v, t int) bool {
	if !m.lacks(t, v) {
		return false
	}
	// Of two variables the greater one is bound, whichever was the first.
	if m.heap[t].Kind == api.CellRef && t > v {
		v, t = t, v
	}
	m.heap[v].N = t
	m.bound = append(m.bound, v)
	return true
}

// lacks: does a variable not stand in a term? False, too, if no work is left.
func (m *making) lacks(t, v int) bool {
	t = m.Deref(t)
	if !m.look() || t == v {
		return false
	}
	for arg := range Leads(m.heap, t) {
		if !m.lacks(arg, v) {
			return false
		}
	}
	return true
}
