package machine_test

import (
	"math"
	"reflect"
	"slices"
	"testing"

	"palisade/api"
	"palisade/heap"
	"palisade/machine"
)

// ways in which a machine can be other than byHand, and the error of each (OK, too).
func changes() []struct {
	about string
	want  api.Errno
	do    func(m *api.Machine)
} {
	return []struct {
		about string
		want  api.Errno
		do    func(m *api.Machine)
	}{
		{"as it is", api.OK, func(m *api.Machine) {}},
		{"a heap that is wrong", api.ErrForm, func(m *api.Machine) { m.Heap[5].Kind = 3 }},
		{"a heap that leads in a circle", api.ErrState, func(m *api.Machine) { m.Heap[0].N = 1 }},
		{"a heap that is wrong, ahead of too many goals", api.ErrForm, func(m *api.Machine) { m.Heap[5].Kind, m.Goals = 3, make([]api.Goal, 5001) }},
		{"too many goals", api.ErrMany, func(m *api.Machine) { m.Goals = make([]api.Goal, api.MaxGoals+1) }},
		{"as many goals as may be", api.OK, func(m *api.Machine) {
			m.Goals = append(m.Goals, make([]api.Goal, api.MaxGoals-2)...)
		}},
		{"too many cells in the query", api.ErrMany, func(m *api.Machine) { m.Query = make([]int, api.MaxVar+1) }},
		{"as many cells in the query as may be", api.OK, func(m *api.Machine) { m.Query = make([]int, api.MaxVar) }},
		{"too many ahead of none", api.ErrMany, func(m *api.Machine) { m.Query, m.Trail[0] = make([]int, 13), -1 }},
		{"a goal at no cell", api.ErrNone, func(m *api.Machine) { m.Goals[1].At = 6 }},
		{"a goal below all cells", api.ErrNone, func(m *api.Machine) { m.Goals[0].At = -1 }},
		{"a trail of no cell", api.ErrNone, func(m *api.Machine) { m.Trail[0] = 6 }},
		{"a trail below all cells", api.ErrNone, func(m *api.Machine) { m.Trail = append(m.Trail, math.MinInt) }},
		{"a query of no cell", api.ErrNone, func(m *api.Machine) { m.Query[0] = math.MaxInt }},
		{"none ahead of state", api.ErrNone, func(m *api.Machine) { m.Query[0], m.First = -1, 3 }},
		{"a goal ahead of itself", api.ErrState, func(m *api.Machine) { m.Goals[1].Next = 2 }},
		{"a goal ahead of a later one", api.ErrState, func(m *api.Machine) { m.Goals[0].Next = 2 }},
		{"a goal ahead of less than none", api.ErrState, func(m *api.Machine) { m.Goals[1].Next = -1 }},
		{"a goal ahead of none", api.OK, func(m *api.Machine) { m.Goals[1].Next = 0 }},
		{"a cut below 0", api.ErrState, func(m *api.Machine) { m.Goals[0].Cut = -1 }},
		{"a cut above all", api.OK, func(m *api.Machine) { m.Goals[0].Cut = math.MaxInt }},
		{"a first goal that is none", api.ErrState, func(m *api.Machine) { m.First = 3 }},
		{"a first goal below 0", api.ErrState, func(m *api.Machine) { m.First = -1 }},
		{"no first goal", api.OK, func(m *api.Machine) { m.First = 0 }},
		{"a choice of no goal", api.ErrState, func(m *api.Machine) { m.Choices[1].Goal = 0 }},
		{"a choice of a goal that is not there", api.ErrState, func(m *api.Machine) { m.Choices[1].Goal = 3 }},
		{"a choice of a goal that was not there", api.ErrState, func(m *api.Machine) { m.Choices[0].Goal = 2 }},
		{"a clause below 0", api.ErrState, func(m *api.Machine) { m.Choices[1].Clause = -1 }},
		{"all clauses were tried", api.OK, func(m *api.Machine) { m.Choices[1].Clause = 2 }},
		{"a clause that is none", api.ErrState, func(m *api.Machine) { m.Choices[1].Clause = 3 }},
		{"a heap below 0", api.ErrState, func(m *api.Machine) { m.Choices[0].Heap = -1 }},
		{"a heap that was longer than it is", api.ErrState, func(m *api.Machine) { m.Choices[1].Heap = 7 }},
		{"a heap that was longer at the choice ahead", api.ErrState, func(m *api.Machine) { m.Choices[0].Heap, m.Choices[1].Heap = 6, 5 }},
		{"a trail below 0", api.ErrState, func(m *api.Machine) { m.Choices[0].Trail = -1 }},
		{"a trail that was longer than it is", api.ErrState, func(m *api.Machine) { m.Choices[1].Trail = 2 }},
		{"a trail that was longer at the choice ahead", api.ErrState, func(m *api.Machine) { m.Heap[0], m.Choices[0].Trail, m.Choices[1].Trail = ref(0), 1, 0 }},
		{"goals that were more than they are", api.ErrState, func(m *api.Machine) { m.Choices[1].Goals = 3 }},
		{"goals that were more at the choice ahead", api.ErrState, func(m *api.Machine) { m.Heap[0], m.Choices[0], m.Choices[1].Goals = ref(0), m.Choices[1], 1 }},
		{"gone back, a CellRef to what is gone", api.ErrState, func(m *api.Machine) { m.Trail[0] = 2 }},
		{"gone back, a CellRef that was bound before", api.ErrState, func(m *api.Machine) { m.Choices[0].Trail = 1 }},
		{"gone back, a CellRef that was bound before and since", api.OK, func(m *api.Machine) { m.Choices[0].Trail, m.Trail = 1, []int{0, 0} }},
		{"gone back, an argument that is gone", api.ErrState, func(m *api.Machine) { m.Choices[0].Heap = 2 }},
		{"gone back, an argument of what was bound", api.OK, func(m *api.Machine) { m.Choices[0].Heap, m.Trail = 2, []int{0, 1} }},
		{"gone back, a goal that is gone", api.ErrState, func(m *api.Machine) { m.Goals[0].At = 3 }},
		{"gone back, a goal that came later", api.OK, func(m *api.Machine) { m.Goals[1].At = 5 }},
		{"gone back, a trail that is gone", api.ErrState, func(m *api.Machine) { m.Choices[0].Trail, m.Trail = 1, []int{3, 0} }},
		{"gone back, a trail that came later", api.OK, func(m *api.Machine) { m.Trail = []int{0, 5} }},
		{"gone back, a query that is gone", api.ErrState, func(m *api.Machine) { m.Query[0] = 3 }},
		{"no choices, nothing to be gone", api.OK, func(m *api.Machine) { m.Choices, m.Query[0], m.Trail = nil, 3, nil }},
		{"steps below 0", api.ErrRange, func(m *api.Machine) { m.Steps = -1 }},
		{"too many steps", api.ErrRange, func(m *api.Machine) { m.Steps = api.MaxSteps + 1 }},
		{"as many steps as may be", api.OK, func(m *api.Machine) { m.Steps = api.MaxSteps }},
		{"an end below 0", api.ErrRange, func(m *api.Machine) { m.End = -1 }},
		{"an end that is none", api.ErrRange, func(m *api.Machine) { m.End = api.EndWrong + 1 }},
		{"the greatest end", api.OK, func(m *api.Machine) { m.End = api.EndWrong }},
		{"state ahead of range", api.ErrState, func(m *api.Machine) { m.Steps, m.Query[0] = -1, 3 }},
		{"answers, whatever they are", api.OK, func(m *api.Machine) { m.Answers = make([]api.Answer, 99) }},
	}
}

func TestCheck(t *testing.T) {
	p := program("p(a); p(V1) :- eq(V1, b)")
	for _, c := range changes() {
		m := byHand()
		c.do(&m)
		if e := machine.Check(p, m); e != c.want {
			t.Errorf("F1: %s: error %d, and must be %d", c.about, e, c.want)
		}
		x, e := machine.Step(p, m)
		if e != c.want || e != api.OK && !reflect.DeepEqual(x, api.Machine{}) {
			t.Errorf("F2: %s: error %d of Step, and must be %d alone: %v", c.about, e, c.want, x)
		}
		if e := machine.Check(make(api.Program, 31), m); e != api.ErrMany {
			t.Errorf("F1: %s: error %d, and the clauses come first", c.about, e)
		}
		if c.want == api.OK && m.Steps < api.MaxSteps && machine.Check(p, x) != api.OK {
			t.Errorf("F2: %s: error %d of what was right a step ago", c.about, machine.Check(p, x))
		}
	}
	if e := machine.Check(nil, api.Machine{}); e != api.OK {
		t.Errorf("F1: nothing: error %d", e)
	}
}

// goneBack: a machine as it was at a choice, as the document says it.
func goneBack(m api.Machine, c api.Choice) api.Machine {
	back := api.Machine{Heap: slices.Clone(m.Heap[:c.Heap]), Goals: m.Goals[:c.Goals], Trail: m.Trail[:c.Trail], Query: m.Query}
	for _, at := range m.Trail[c.Trail:] {
		if at < c.Heap {
			back.Heap[at] = ref(at)
		}
	}
	return back
}

// cellsOf: all cells that a machine speaks of.
func cellsOf(m api.Machine) []int {
	l := slices.Concat(m.Trail, m.Query)
	for _, g := range m.Goals {
		l = append(l, g.At)
	}
	for at, c := range m.Heap {
		if c.Kind == api.CellFn {
			at += c.N
			l = append(l, at)
		} else {
			l = append(l, c.N)
		}
	}
	return l
}

// plainCheck: what Check must answer of a right program with so many clauses.
func plainCheck(m api.Machine, clauses int) api.Errno {
	if e := heap.Check(m.Heap); e != api.OK {
		return e
	}
	if len(m.Goals) > api.MaxGoals || len(m.Query) > api.MaxVar {
		return api.ErrMany
	}
	gone := func(m api.Machine) bool {
		return slices.ContainsFunc(cellsOf(m), func(at int) bool { return at < 0 || at >= len(m.Heap) })
	}
	if gone(m) {
		return api.ErrNone
	}
	for i, g := range m.Goals {
		if g.Next < 0 || g.Next > i || g.Cut < 0 {
			return api.ErrState
		}
	}
	if m.First < 0 || m.First > len(m.Goals) {
		return api.ErrState
	}
	for i, c := range m.Choices {
		if c.Goal < 1 || c.Goal > len(m.Goals) || c.Clause < 0 || c.Clause > clauses || c.Heap < 0 || c.Heap > len(m.Heap) ||
			c.Trail < 0 || c.Trail > len(m.Trail) || c.Goals < 0 || c.Goals > len(m.Goals) || c.Goal > c.Goals {
			return api.ErrState
		}
		if i > 0 && (c.Heap < m.Choices[i-1].Heap || c.Trail < m.Choices[i-1].Trail || c.Goals < m.Choices[i-1].Goals) {
			return api.ErrState
		}
		if gone(goneBack(m, c)) {
			return api.ErrState
		}
	}
	if m.Steps < 0 || m.Steps > api.MaxSteps || m.End < 0 || m.End > api.EndWrong {
		return api.ErrRange
	}
	return api.OK
}
