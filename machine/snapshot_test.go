package machine_test

import (
	"slices"

	"palisade/api"
	"palisade/heap"
)

// A machine by the plainest means: each choice keeps a whole heap and whole goals of its own, so nothing is ever taken back; all is done by the calls of chapter 5, which change nothing.

// goal: where it stands, and how many choices are left when it cuts.
type goal struct{ at, cut int }

// snapshot: a heap, and the goals that are left.
type snapshot struct {
	heap  []api.Cell
	goals []goal
}

// kept: what was there when a choice was made, and which clause is tried next for its first goal.
type kept struct {
	snapshot
	clause int
}

// plain: what is known of a search while it goes on.
type plain struct {
	snapshot
	p       api.Program
	choices []kept
	query   []int
	work    int
	api.Result
}

// goals of a machine, from one on.
func goals(m api.Machine, first int) []goal {
	var l []goal
	for n := first; n != 0; n = m.Goals[n-1].Next {
		l = append(l, goal{m.Goals[n-1].At, m.Goals[n-1].Cut})
	}
	return l
}

// plainly: a machine that is right, as one of whole heaps.
func plainly(p api.Program, m api.Machine) *plain {
	x := &plain{p: p, query: m.Query, snapshot: snapshot{m.Heap, goals(m, m.First)}}
	x.End, x.Steps, x.Answers = m.End, m.Steps, slices.Clone(m.Answers)
	for _, c := range m.Choices {
		x.choices = append(x.choices, kept{snapshot{goneBack(m, c).Heap, goals(m, c.Goal)}, c.Clause})
	}
	return x
}

// step: what Step must do.
func (x *plain) step() {
	if x.End == 0 && len(x.goals) > 0 {
		x.Steps++
		x.work = 0
		x.take()
	}
	for x.End == 0 && len(x.goals) == 0 {
		x.answer()
	}
}

// take the first goal.
func (x *plain) take() {
	g := x.goals[0]
	at, _ := heap.Deref(x.heap, g.at)
	c := x.heap[at]
	switch {
	case c.Kind == api.CellRef:
		x.End = api.EndWrong
	case c == fn("!", 0):
		x.goals = x.goals[1:]
		if g.cut < len(x.choices) {
			x.choices = x.choices[:g.cut]
		}
	case c == fn("true", 0):
		x.goals = x.goals[1:]
	case c == fn("eq", 2):
		x.goals = x.goals[1:]
		h, ok := x.same(x.heap, at+1, at+2)
		if !ok {
			x.back()
			return
		}
		x.heap = h
	default: // fail, too: no clause has that head
		x.call(x.snapshot, 0)
	}
}

// same: a heap on which what stands at two cells is the same.
func (x *plain) same(h []api.Cell, a, b int) ([]api.Cell, bool) {
	h, _, ok, work, e := heap.Unify(h, a, b)
	x.work += work
	if e != api.OK || x.work > api.MaxWork {
		x.End = api.EndGreat
		return nil, false
	}
	return h, ok
}

// call clauses, from one on, for the first goal of a snapshot.
func (x *plain) call(s snapshot, from int) {
	at, _ := heap.Deref(s.heap, s.goals[0].at)
	for i := from; i < len(x.p) && x.End == 0; i++ {
		c := x.p[i]
		if s.heap[at] != fn(c.Head.Name, len(c.Head.Args)) {
			continue
		}
		// Head and body are built as the arguments of one term, so that they have the same variables.
		h, all, _, e := heap.Build(s.heap, api.Term{Name: "c", Args: slices.Concat([]api.Term{c.Head}, c.Body)})
		if e != api.OK {
			panic("no room for a clause that is drawn")
		}
		h, ok := x.same(h, all+1, at)
		if !ok {
			continue
		}
		var l []goal
		for k := range c.Body {
			l = append(l, goal{all + 2 + k, len(x.choices)})
		}
		x.snapshot = snapshot{h, append(l, s.goals[1:]...)}
		for k := i + 1; k < len(x.p); k++ {
			if s.heap[at] == fn(x.p[k].Head.Name, len(x.p[k].Head.Args)) {
				x.choices = append(x.choices, kept{s, k})
				break
			}
		}
		return
	}
	x.back()
}

// back to the last choice.
func (x *plain) back() {
	if x.End != 0 {
		return
	}
	n := len(x.choices) - 1
	if n < 0 {
		x.End = api.EndDone
		return
	}
	c := x.choices[n]
	x.choices = slices.Clone(x.choices[:n])
	x.work = 0
	x.call(c.snapshot, c.clause)
}

// answer: no goals are left.
func (x *plain) answer() {
	var a api.Answer
	var names []int
	parts := 0
	for _, at := range x.query {
		t, l, e := heap.Read(x.heap, at)
		if e == api.OK {
			parts += size(t)
			t = renamed(t, l, &names)
		}
		if e != api.OK || parts > api.MaxShow {
			x.End = api.EndGreat
			return
		}
		a = append(a, t)
	}
	x.Answers = append(x.Answers, a)
	if len(x.Answers) >= api.MaxAnswers {
		x.End = api.EndDone
		return
	}
	x.back()
}

// size: how many parts a term has.
func size(t api.Term) int {
	n := 1
	for _, a := range t.Args {
		n += size(a)
	}
	return n
}

// renamed: a term whose variables, at these cells, have their places in a list of names.
func renamed(t api.Term, cells []int, names *[]int) api.Term {
	if t.Var != 0 {
		at := cells[t.Var-1]
		if !slices.Contains(*names, at) {
			*names = append(*names, at)
		}
		return api.Term{Var: 1 + slices.Index(*names, at)}
	}
	c := api.Term{Name: t.Name}
	for _, a := range t.Args {
		c.Args = append(c.Args, renamed(a, cells, names))
	}
	return c
}
