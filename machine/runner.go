package machine

import (
	"slices"

	"palisade/api"
	"palisade/cells"
	"palisade/term"
)

// runner: who runs a machine, of which program, and how much work is left. Each cell that is bound is laid on the trail, so that any choice, whoever made it, can be gone back to.
type runner struct {
	api.Machine
	program api.Program
	left    int
}

// start: who runs a machine from the beginning on.
func start(p api.Program, q []api.Term) (*runner, api.Errno) {
	if e := term.Clauses(p); e != api.OK {
		return nil, e
	}
	n, e := term.Vars(q)
	if e != api.OK {
		return nil, e
	}
	r := &runner{program: p}
	vars := map[int]int{}
	for i := range n {
		r.Query = append(r.Query, r.put(api.Term{Var: i + 1}, vars))
	}
	r.ahead(q, api.Goal{}, vars)
	return r, api.OK
}

// put a term on the heap, whose variables' cells lie in a map: where it stands.
func (r *runner) put(t api.Term, vars map[int]int) int {
	var at int
	r.Heap, at = cells.Put(r.Heap, t, vars)
	return at
}

// ahead: terms are the first goals, with the cut of a goal, and ahead of its next one.
// The last one is laid down first, because a goal's next one has a lesser number.
func (r *runner) ahead(terms []api.Term, g api.Goal, vars map[int]int) {
	for _, t := range slices.Backward(terms) {
		g.At = r.put(t, vars)
		r.Goals = append(r.Goals, g)
		g.Next = len(r.Goals)
	}
	r.First = g.Next
}

// step: a goal is taken, if there is one, and all is done till the next one is there.
func (r *runner) step() {
	if r.End == 0 && r.First != 0 {
		r.Steps++
		r.left = api.MaxWork
		r.take(r.Goals[r.First-1])
	}
	r.settle()
}

// settle: answers are found till a goal is there to be taken, or it has ended.
func (r *runner) settle() {
	for r.End == 0 && r.First == 0 {
		r.answer()
	}
}

// take the first goal.
func (r *runner) take(g api.Goal) {
	at := cells.On(r.Heap).Deref(g.At)
	switch r.Heap[at] {
	case cells.Free(at):
		r.End = api.EndWrong
	case function(api.NameCut, 0):
		r.Choices = r.Choices[:min(g.Cut, len(r.Choices))]
		r.First = g.Next
	case function(api.NameTrue, 0):
		r.First = g.Next
	case function(api.NameFail, 0):
		r.back()
	case function(api.NameSame, 2):
		r.First = g.Next
		if !r.same(at+1, at+2) {
			r.back()
		}
	default:
		if !r.try(0) {
			r.back()
		}
	}
}

// function: the cell of a name with so many arguments.
func function(name string, args int) api.Cell {
	return api.Cell{Kind: api.CellFn, N: args, Name: name}
}

// same: what stands at two cells is made the same; if that is too much work, it is the end.
func (r *runner) same(a, b int) bool {
	bound, ok, work := cells.Same(r.Heap, a, b, r.left)
	r.Trail = append(r.Trail, bound...)
	r.left -= work
	if r.left < 0 {
		r.End = api.EndGreat
	}
	return ok
}

// try the clauses from one on for the first goal: is there one that fits? If not, all is as it was.
func (r *runner) try(from int) bool {
	g := r.Goals[r.First-1]
	at := cells.On(r.Heap).Deref(g.At)
	name := r.Heap[at]
	was := api.Choice{Goal: r.First, Heap: len(r.Heap), Trail: len(r.Trail), Goals: len(r.Goals)}
	for i := r.fit(name, from); i >= 0 && r.End == 0; i = r.fit(name, i+1) {
		if r.enter(r.program[i], at, g.Next) {
			was.Clause = r.fit(name, i+1)
			if was.Clause >= 0 {
				r.Choices = append(r.Choices, was)
			}
			return true
		}
		r.undo(was)
	}
	return false
}

// fit: the first clause from one on whose head has the name of a cell, and as many arguments; -1, if there is none.
func (r *runner) fit(name api.Cell, from int) int {
	i := slices.IndexFunc(r.program[from:], func(c api.Clause) bool {
		return function(c.Head.Name, len(c.Head.Args)) == name
	})
	if i < 0 {
		return i
	}
	return from + i
}

// enter a clause, if its head is made the same as what stands at a cell, and there is room: its body stands ahead of a goal.
func (r *runner) enter(c api.Clause, at, next int) bool {
	vars := map[int]int{}
	head := r.put(c.Head, vars)
	if r.full() || !r.same(head, at) {
		return false
	}
	r.ahead(c.Body, api.Goal{Cut: len(r.Choices), Next: next}, vars)
	return !r.full()
}

// full: are there more cells, or goals, than there may be? Then it is the end.
func (r *runner) full() bool {
	if len(r.Heap) <= api.MaxHeap && len(r.Goals) <= api.MaxGoals {
		return false
	}
	r.End = api.EndGreat
	return true
}

// undo: all is as it was when a choice was made.
func (r *runner) undo(c api.Choice) {
	r.Heap = r.Heap[:c.Heap]
	for _, at := range r.Trail[c.Trail:] {
		if at < c.Heap {
			r.Heap[at] = cells.Free(at)
		}
	}
	r.Trail = r.Trail[:c.Trail]
	r.Goals = r.Goals[:c.Goals]
	r.First = c.Goal
}

// back to the last choice at which a clause fits.
func (r *runner) back() {
	for r.End == 0 {
		k := len(r.Choices) - 1
		if k < 0 {
			r.End = api.EndDone
			return
		}
		c := r.Choices[k]
		r.Choices = r.Choices[:k]
		r.undo(c)
		r.left = api.MaxWork
		if r.try(c.Clause) {
			return
		}
	}
}

// answer: no goals are left.
func (r *runner) answer() {
	v := cells.On(r.Heap)
	if v.Room(api.MaxShow, slices.Values(r.Query)) < 0 {
		r.End = api.EndGreat
		return
	}
	names := cells.NewNames()
	var a api.Answer
	for _, at := range r.Query {
		a = append(a, v.Read(at, names.Number))
	}
	r.Answers = append(r.Answers, a)
	if len(r.Answers) >= api.MaxAnswers {
		r.End = api.EndDone
		return
	}
	r.back()
}
