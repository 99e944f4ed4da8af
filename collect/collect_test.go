package collect_test

import (
	"fmt"
	"math"
	"reflect"
	"slices"
	"strings"
	"testing"

	"palisade/api"
	"palisade/collect"
	"palisade/heap"
	"palisade/machine"
	"palisade/text"
)

func ref(n int) api.Cell { return api.Cell{Kind: api.CellRef, N: n} }

func fn(name string, args int) api.Cell { return api.Cell{Kind: api.CellFn, N: args, Name: name} }

// program of clauses (each without its full stop), "; " between.
func program(s string) api.Program {
	if s != "" {
		s = strings.ReplaceAll(s, "; ", ".\n") + ".\n"
	}
	p, at, e := text.Parse(s)
	if e != api.OK {
		panic(fmt.Sprintf("no program, at %d: %s", at, s))
	}
	return p
}

// query of a text.
func query(s string) []api.Term {
	q, at, e := text.ParseGoals(s)
	if e != api.OK {
		panic(fmt.Sprintf("no query, at %d: %s", at, s))
	}
	return q
}

// stepped: a machine some steps later.
func stepped(t *testing.T, p api.Program, m api.Machine, steps int) api.Machine {
	for range steps {
		next, e := machine.Step(p, m)
		if e != api.OK {
			t.Fatalf("F2: error %d of %v", e, m)
		}
		m = next
	}
	return m
}

// started: a machine of a query, some steps later.
func started(t *testing.T, p api.Program, q []api.Term, steps int) api.Machine {
	m, e := machine.Start(p, q)
	if e != api.OK {
		t.Fatalf("F1: error %d of %v", e, q)
	}
	return stepped(t, p, m, steps)
}

// state of a machine: all that can be told of it without a cell's number, its goals and their cuts, too.
func state(m api.Machine) string {
	s := fmt.Sprint(m.Answers, m.End, m.Steps, m.First)
	for n := m.First; n != 0; n = m.Goals[n-1].Next {
		t, _, e := heap.Read(m.Heap, m.Goals[n-1].At)
		s += fmt.Sprint("; ", t, e, m.Goals[n-1].Cut)
	}
	return s
}

// two: clauses for machines by hand.
const two = "p(a); p(V1) :- eq(V1, b)"

// byHand: a machine with two choices and two goals, in which V1 of the query is b; cells that are not needed stand at both ends, between, and on the trail.
func byHand() api.Machine {
	return api.Machine{
		Heap: []api.Cell{
			0: fn("x", 0), 1: ref(9), 2: fn("p", 1), 3: ref(1), 4: ref(0), // till the first choice
			5: fn("y", 1), 6: ref(1), 7: fn("p", 1), 8: ref(9), 9: fn("b", 0), 10: ref(10), // till the second one
			11: fn("g", 2), 12: ref(9), 13: ref(13),
		},
		Goals:   []api.Goal{{At: 2, Cut: 3}, {At: 7, Cut: 1, Next: 1}},
		First:   2,
		Choices: []api.Choice{{Goal: 1, Clause: 1, Heap: 5, Trail: 1, Goals: 1}, {Goal: 2, Clause: 2, Heap: 11, Trail: 3, Goals: 2}},
		Trail:   []int{4, 1, 10, 10, 1, 13},
		Query:   []int{1},
		Steps:   7,
		Answers: []api.Answer{{{Name: "c"}}, {{Var: 1}}},
	}
}

// collected: what byHand is then.
func collected() api.Machine {
	return api.Machine{
		Heap:    []api.Cell{ref(5), fn("p", 1), ref(0), fn("p", 1), ref(5), fn("b", 0)},
		Goals:   []api.Goal{{At: 1, Cut: 3}, {At: 3, Cut: 1, Next: 1}},
		First:   2,
		Choices: []api.Choice{{Goal: 1, Clause: 1, Heap: 3, Trail: 0, Goals: 1}, {Goal: 2, Clause: 2, Heap: 6, Trail: 1, Goals: 2}},
		Trail:   []int{0, 0},
		Query:   []int{0},
		Steps:   7,
		Answers: []api.Answer{{{Name: "c"}}, {{Var: 1}}},
	}
}

func TestByHand(t *testing.T) {
	none := func(m *api.Machine) {}
	for _, c := range []struct {
		about string
		do    func(m *api.Machine)
		live  []int
		want  func(m *api.Machine) // done to collected; nil: nothing of it is alike
	}{
		{"as it is", none, []int{1, 2, 3, 7, 8, 9}, none},
		{"it has ended", func(m *api.Machine) { m.End = api.EndGreat }, []int{1, 2, 3, 7, 8, 9}, func(m *api.Machine) { m.End = api.EndGreat }},
		{"as many steps as may be", func(m *api.Machine) { m.Steps = api.MaxSteps }, []int{1, 2, 3, 7, 8, 9}, func(m *api.Machine) { m.Steps = api.MaxSteps }},
		{"no first goal: all goals are needed", func(m *api.Machine) { m.First = 0 }, []int{1, 2, 3, 7, 8, 9}, func(m *api.Machine) { m.First = 0 }},
		{"no choices", func(m *api.Machine) { m.Choices = nil }, []int{1, 2, 3, 7, 8, 9}, func(m *api.Machine) { m.Choices = nil }},
		{"no trail, no choices: what is bound stays bound", func(m *api.Machine) { m.Choices, m.Trail = nil, nil }, []int{1, 2, 3, 7, 8, 9}, func(m *api.Machine) { m.Choices, m.Trail = nil, nil }},
		{"no query", func(m *api.Machine) { m.Query = nil }, []int{1, 2, 3, 7, 8, 9}, func(m *api.Machine) { m.Query = nil }},
		{"a cell twice in the query", func(m *api.Machine) { m.Query = []int{3, 1, 3} }, []int{1, 2, 3, 7, 8, 9}, func(m *api.Machine) { m.Query = []int{2, 0, 2} }},
		{"more of the query", func(m *api.Machine) { m.Query = []int{1, 0} }, []int{0, 1, 2, 3, 7, 8, 9}, nil},
		{"a line of cells", func(m *api.Machine) { m.Query = []int{4} }, []int{0, 1, 2, 3, 4, 7, 8, 9}, nil},
		{"an argument without its name", func(m *api.Machine) { m.Goals[1].At = 6 }, []int{1, 2, 3, 6, 9}, nil},
		{"a name with all its arguments", func(m *api.Machine) { m.Goals[1].At = 11 }, nil, nil}, // it is not there at the second choice
		{"a goal since the second choice", func(m *api.Machine) { m.Goals = append(m.Goals, api.Goal{At: 11}) }, []int{1, 2, 3, 7, 8, 9, 11, 12, 13}, nil},
		{"a goal at an argument that is a variable", func(m *api.Machine) { m.Goals = append(m.Goals, api.Goal{At: 13}) }, []int{1, 2, 3, 7, 8, 9, 13}, nil},
		{"goals at one cell", func(m *api.Machine) { m.Goals[1].At = 2 }, []int{1, 2, 3, 9}, nil},
		{"the trail needs nothing", func(m *api.Machine) { m.Goals, m.First, m.Choices = nil, 0, nil }, []int{1, 9}, nil},
		{"choices need nothing", func(m *api.Machine) { m.Query, m.Goals[0].At, m.Goals[1].At = nil, 0, 0 }, []int{0}, nil},
	} {
		p, m := program(two), byHand()
		c.do(&m)
		l, e := collect.Live(p, m)
		if want := machine.Check(p, m); e != want || (want == api.OK) != (c.live != nil) {
			t.Errorf("G1: %s: error %d, and must be %d", c.about, e, want)
			continue
		}
		for at := range l {
			if l[at] != slices.Contains(c.live, at) {
				t.Errorf("G1: %s: cell %d is %v, needed are %v", c.about, at, l[at], c.live)
			}
		}
		x, n, e := collect.Collect(p, m)
		if want := machine.Check(p, m); e != want || e == api.OK && (n != len(m.Heap)-len(c.live) || len(x.Heap) != len(c.live)) {
			t.Errorf("G2: %s: error %d, %d cells went, %d stay, of %d", c.about, e, n, len(x.Heap), len(m.Heap))
		}
		if c.want == nil {
			continue
		}
		want := collected()
		c.want(&want)
		if fmt.Sprint(x) != fmt.Sprint(want) {
			t.Errorf("G2: %s: it is\n%v\nand must be\n%v", c.about, x, want)
		}
	}
}

func TestEdges(t *testing.T) {
	for _, c := range []struct {
		about string
		m     api.Machine
		want  string
		went  int
	}{
		{"nothing", api.Machine{}, "{[] [] 0 [] [] [] 0 0 []}", 0},
		{"nothing is needed", api.Machine{Heap: []api.Cell{fn("f", 1), ref(1)}, Trail: []int{1, 0}, Steps: 3, End: 1}, "{[] [] 0 [] [] [] 3 1 []}", 2},
		{"all is needed", api.Machine{Heap: []api.Cell{fn("f", 2), ref(3), ref(2), fn("a", 0)}, Goals: []api.Goal{{At: 0}}, Trail: []int{1}}, "{[{2 2 f} {1 3 } {1 2 } {2 0 a}] [{0 0 0}] 0 [] [1] [] 0 0 []}", 0},
		{"a variable that is nothing", api.Machine{Heap: []api.Cell{ref(1), ref(1)}, Query: []int{1}}, "{[{1 0 }] [] 0 [] [] [0] 0 0 []}", 1},
		{"cells that lead up and down", api.Machine{Heap: []api.Cell{ref(4), ref(1), ref(2), ref(0), ref(2)}, Query: []int{3}}, "{[{1 3 } {1 1 } {1 0 } {1 1 }] [] 0 [] [] [2] 0 0 []}", 1},
		{"the last cell of the heap", api.Machine{Heap: []api.Cell{fn("a", 0), fn("!", 0)}, Goals: []api.Goal{{At: 1}}, First: 1}, "{[{2 0 !}] [{0 0 0}] 1 [] [] [] 0 0 []}", 1},
		{"as many arguments as may be", api.Machine{Heap: []api.Cell{ref(6), fn("f", 4), ref(2), ref(3), ref(4), ref(5), ref(1)}, Query: []int{0}}, "{[{1 6 } {2 4 f} {1 2 } {1 3 } {1 4 } {1 5 } {1 1 }] [] 0 [] [] [0] 0 0 []}", 0},
		{"arguments end where the next name stands", api.Machine{Heap: []api.Cell{fn("f", 1), ref(1), fn("g", 1), ref(3)}, Query: []int{0}}, "{[{2 1 f} {1 1 }] [] 0 [] [] [0] 0 0 []}", 2},
		{"a choice of no cells", api.Machine{Heap: []api.Cell{fn("x", 0), fn("a", 0)}, Goals: []api.Goal{{At: 1}}, Choices: []api.Choice{{Goal: 1, Heap: 2, Goals: 1}}}, "{[{2 0 a}] [{0 0 0}] 0 [{1 0 1 0 1}] [] [] 0 0 []}", 1},
		{"a trail that ends at a choice", api.Machine{Heap: []api.Cell{ref(1), ref(1)}, Goals: []api.Goal{{At: 1}}, Trail: []int{0, 1, 0}, Choices: []api.Choice{{Goal: 1, Heap: 2, Trail: 2, Goals: 1}, {Goal: 1, Heap: 2, Trail: 3, Goals: 1}}}, "{[{1 0 }] [{0 0 0}] 0 [{1 0 1 1 1} {1 0 1 1 1}] [0] [] 0 0 []}", 1},
		{"answers, whatever they are", api.Machine{Answers: []api.Answer{nil, {{Var: -3, Name: "A B"}}}}, "{[] [] 0 [] [] [] 0 0 [[] [{-3 A B []}]]}", 0},
	} {
		x, n, e := collect.Collect(nil, c.m)
		if fmt.Sprint(x) != c.want || n != c.went || e != api.OK {
			t.Errorf("G2: %s: %v, %d went, error %d, and must be %s, %d", c.about, x, n, e, c.want, c.went)
		}
		if l, e := collect.Live(nil, c.m); e != api.OK || len(l) != len(c.m.Heap) {
			t.Errorf("G1: %s: %v, error %d", c.about, l, e)
		}
		y, n, e := collect.Collect(nil, x)
		if fmt.Sprint(y) != c.want || n != 0 || e != api.OK {
			t.Errorf("G3: %s: a second time it is %v, %d went, error %d", c.about, y, n, e)
		}
	}
}

// TestDocumentsExample: behind the first step the head of a clause is not needed any more, and what is found then is found all the same.
func TestDocumentsExample(t *testing.T) {
	p := program(two)
	m := started(t, p, query("p(V1)"), 1)
	x, n, e := collect.Collect(p, m)
	if n == 0 || e != api.OK || state(x) != state(m) {
		t.Errorf("G2: %d cells went, error %d: %s was %s", n, e, state(x), state(m))
	}
	m, x = stepped(t, p, m, 1), stepped(t, p, x, 1)
	if state(x) != state(m) || len(x.Answers) != 2 || x.End != api.EndDone {
		t.Errorf("G3: %s, and must be %s", state(x), state(m))
	}
}

func TestErrors(t *testing.T) {
	for _, c := range []struct {
		about string
		want  api.Errno
		do    func(m *api.Machine)
	}{
		{"too many cells", api.ErrMany, func(m *api.Machine) { m.Heap = make([]api.Cell, api.MaxHeap+1) }},
		{"a cell of no kind", api.ErrForm, func(m *api.Machine) { m.Heap[13].Kind = 0 }},
		{"a cell that is not needed leads to none", api.ErrNone, func(m *api.Machine) { m.Heap[4].N = 14 }},
		{"cells that are not needed lead in a circle", api.ErrState, func(m *api.Machine) { m.Heap[4], m.Heap[6] = ref(5), ref(4) }},
		{"too many goals", api.ErrMany, func(m *api.Machine) { m.Goals = make([]api.Goal, api.MaxGoals+1) }},
		{"too many cells in the query", api.ErrMany, func(m *api.Machine) { m.Query = make([]int, api.MaxVar+1) }},
		{"a goal at no cell", api.ErrNone, func(m *api.Machine) { m.Goals[1].At = 14 }},
		{"a trail of no cell", api.ErrNone, func(m *api.Machine) { m.Trail[5] = math.MinInt }},
		{"a query of no cell", api.ErrNone, func(m *api.Machine) { m.Query[0] = math.MaxInt }},
		{"a goal ahead of itself", api.ErrState, func(m *api.Machine) { m.Goals[1].Next = 2 }},
		{"a first goal that is none", api.ErrState, func(m *api.Machine) { m.First = 3 }},
		{"a choice of a goal that was not there", api.ErrState, func(m *api.Machine) { m.Choices[0].Goal = 2 }},
		{"a clause that is none", api.ErrState, func(m *api.Machine) { m.Choices[1].Clause = 3 }},
		{"a heap that was longer than it is", api.ErrState, func(m *api.Machine) { m.Choices[1].Heap = 15 }},
		{"a trail that was longer than it is", api.ErrState, func(m *api.Machine) { m.Choices[1].Trail = 7 }},
		{"a trail below 0", api.ErrState, func(m *api.Machine) { m.Choices[0].Trail = -1 }},
		{"gone back, a cell that is gone", api.ErrState, func(m *api.Machine) { m.Choices[0].Heap = 3 }},
		{"gone back, a query that is gone", api.ErrState, func(m *api.Machine) { m.Query[0] = 9 }},
		{"too many steps", api.ErrRange, func(m *api.Machine) { m.Steps = api.MaxSteps + 1 }},
		{"an end that is none", api.ErrRange, func(m *api.Machine) { m.End = -1 }},
	} {
		m := byHand()
		c.do(&m)
		wants(t, c.about, program(two), m, c.want)
		wants(t, c.about+", and the clauses come first", api.Program{{Head: api.Term{Name: "b a d"}}}, m, api.ErrForm)
	}
	wants(t, "a choice of fewer clauses", program("p"), byHand(), api.ErrState)
	wants(t, "too many clauses", make(api.Program, api.MaxClauses+1), byHand(), api.ErrMany)
}

// wants an error of both calls, and nothing else.
func wants(t *testing.T, about string, p api.Program, m api.Machine, want api.Errno) {
	if l, e := collect.Live(p, m); e != want || len(l) > 0 {
		t.Errorf("G1: %s: error %d, and must be %d alone: %v", about, e, want, l)
	}
	if x, n, e := collect.Collect(p, m); e != want || n != 0 || !reflect.DeepEqual(x, api.Machine{}) {
		t.Errorf("G2: %s: error %d, and must be %d alone: %v, %d", about, e, want, x, n)
	}
}

// TestGreatestHeaps: as many cells as may be, and as deep as they can lead.
func TestGreatestHeaps(t *testing.T) {
	const n = api.MaxHeap
	line := func(to func(at int) int) []api.Cell {
		var h []api.Cell
		for at := range n {
			h = append(h, ref(to(at)))
		}
		return h
	}
	deep := make([]api.Cell, n) // s(s(s( ..
	for at := 0; at < n; at += 2 {
		deep[at], deep[at+1] = fn("s", 1), ref(min(at+2, n-1))
	}
	for _, c := range []struct {
		about string
		h     []api.Cell
		at    int
		stay  int
	}{
		{"a line down", line(func(at int) int { return max(at-1, 0) }), n - 1, n},
		{"half of a line down", line(func(at int) int { return max(at-1, 0) }), n / 2, n/2 + 1},
		{"a line up", line(func(at int) int { return min(at+1, n-1) }), 0, n},
		{"each of the two others", line(func(at int) int { return max(at-2, at%2) }), n - 1, n / 2},
		{"a term within another", deep, 0, n},
		{"half of it", deep, n / 2, n / 2},
	} {
		m := api.Machine{Heap: c.h, Query: []int{c.at}}
		for at := range c.h {
			m.Trail = append(m.Trail, at)
		}
		x, went, e := collect.Collect(nil, m)
		if e != api.OK || went != n-c.stay || len(x.Heap) != c.stay || len(x.Trail) != c.stay || machine.Check(nil, x) != api.OK {
			t.Errorf("G2: %s: %d cells went, %d and %d of the trail stay, error %d, and must be %d, %d", c.about, went, len(x.Heap), len(x.Trail), e, n-c.stay, c.stay)
		}
	}
}

// TestGreatestGoals: as many goals as may be, each with a term of its own, and a cell that is not needed.
func TestGreatestGoals(t *testing.T) {
	m := api.Machine{First: api.MaxGoals}
	for i := range api.MaxGoals {
		m.Goals = append(m.Goals, api.Goal{At: len(m.Heap), Next: i})
		m.Heap = append(m.Heap, fn("s", 1), ref(4*i+2), fn("a", 0), fn("x", 0))
	}
	x, n, e := collect.Collect(nil, m)
	if e != api.OK || n != api.MaxGoals || len(x.Heap) != 3*api.MaxGoals {
		t.Fatalf("G2: %d cells went, %d stay, error %d", n, len(x.Heap), e)
	}
	for i, g := range x.Goals {
		if g.At != 3*i || g.Next != i || x.Heap[g.At] != fn("s", 1) || x.Heap[g.At+1] != ref(3*i+2) || x.Heap[g.At+2] != fn("a", 0) {
			t.Fatalf("G2: goal %d: %v", i+1, g)
		}
	}
}

// lists: all lists of arguments in terms, these first.
func lists(terms []api.Term) [][]api.Term {
	out := [][]api.Term{terms}
	for _, t := range terms {
		out = append(out, lists(t.Args)...)
	}
	return out
}

func TestOwnMemory(t *testing.T) {
	p := program(two)
	deep := query("f(g(a, V1), g(a, V1)), h")
	for _, do := range []func(m *api.Machine){
		func(m *api.Machine) {},
		func(m *api.Machine) { m.Query = []int{1, 0, 4}; m.Goals[0].At = 5; m.Choices = nil }, // little goes
	} {
		m := byHand()
		do(&m)
		m.Answers = append(make([]api.Answer, 0, 4), deep, deep[:1])
		m.Heap, m.Goals, m.Choices = slices.Grow(m.Heap, 90), slices.Grow(m.Goals, 90), slices.Grow(m.Choices, 90)
		m.Trail, m.Query = slices.Grow(m.Trail, 90), slices.Grow(m.Query, 9)
		all := func() string {
			return fmt.Sprint(m.Heap[:90], m.Goals[:90], m.Choices[:90], m.Trail[:90], m.Query[:9], m.Answers[:4], m.First, m.Steps, m.End, p)
		}
		before := all()
		l, e := collect.Live(p, m)
		x, _, f := collect.Collect(p, m)
		if e != api.OK || f != api.OK || all() != before {
			t.Fatalf("P2: what was handed in has changed, errors %d, %d", e, f)
		}
		want := fmt.Sprint(l, x)
		again, _ := collect.Live(p, m)
		clear(again)
		clear(m.Heap[:90])
		clear(m.Goals[:90])
		clear(m.Choices[:90])
		clear(m.Trail[:90])
		clear(m.Query[:9])
		m.Answers[1] = nil
		for _, list := range lists(deep) {
			for i := range list {
				list[i].Name = "changed"
			}
		}
		if fmt.Sprint(l, x) != want {
			t.Error("P2: a later change of what was handed in, or of another answer, is seen")
		}
		apart(t, &x)
		deep = query("f(g(a, V1), g(a, V1)), h")
	}
}

// apart: no two lists of a machine share memory, their spare room neither: each element that is marked is marked by its own list.
func apart(t *testing.T, m *api.Machine) {
	t.Helper()
	terms := [][]api.Term{}
	for _, a := range m.Answers {
		terms = append(terms, lists(a)...)
	}
	marked, want := 0, 0
	for _, l := range [][]int{m.Trail, m.Query} {
		for i := range l[:cap(l)] {
			l[:cap(l)][i] = -77
		}
		want += len(l)
	}
	for _, i := range slices.Concat(m.Trail, m.Query) {
		if i == -77 {
			marked++
		}
	}
	for _, l := range terms {
		for i := range l[:cap(l)] {
			l[:cap(l)][i].Var -= 1000
		}
	}
	for _, l := range terms {
		want += len(l)
		for _, x := range l {
			if x.Var < -500 && x.Var >= -1000 {
				marked++
			}
		}
	}
	if marked != want {
		t.Errorf("P2: lists share memory: %d parts are marked once, of %d", marked, want)
	}
}

func TestEndlessAnswers(t *testing.T) {
	for _, n := range []int{1, 2, 4} {
		endless := make([]api.Term, n)
		for i := range endless {
			endless[i] = api.Term{Name: "s", Args: endless}
		}
		m := byHand()
		m.Answers = []api.Answer{endless}
		if x, went, e := collect.Collect(program(two), m); e != api.ErrMany || went != 0 || !reflect.DeepEqual(x, api.Machine{}) {
			t.Errorf("P1: %d terms within themselves: error %d", n, e)
		}
		if l, e := collect.Live(program(two), m); e != api.OK || len(l) != len(m.Heap) {
			t.Errorf("G1: %d terms within themselves, which are not asked for: %v, error %d", n, l, e)
		}
	}
}
