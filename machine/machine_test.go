package machine_test

import (
	"fmt"
	"reflect"
	"slices"
	"strings"
	"testing"

	"palisade/api"
	"palisade/heap"
	"palisade/machine"
	"palisade/solve"
	"palisade/text"
)

func ref(n int) api.Cell { return api.Cell{Kind: api.CellRef, N: n} }

func fn(name string, args int) api.Cell { return api.Cell{Kind: api.CellFn, N: args, Name: name} }

// program of clauses (each without its full stop), "; " between.
func program(s string) api.Program {
	if s != "" {
		s = strings.ReplaceAll(s, "; ", ".\n") + ".\n"
	}
	p, at, e := text.Parse(s)
	if e != api.OK {
		panic(fmt.Sprintf("no program, at %d: %s", at, s))
	}
	return p
}

// query of a text.
func query(s string) []api.Term {
	q, at, e := text.ParseGoals(s)
	if e != api.OK {
		panic(fmt.Sprintf("no query, at %d: %s", at, s))
	}
	return q
}

// show terms, whatever their variables.
func show(l []api.Term) string {
	var out []string
	for _, t := range l {
		s := t.Name
		if t.Var != 0 {
			s = fmt.Sprintf("V%d", t.Var)
		}
		if len(t.Args) > 0 {
			s += "(" + show(t.Args) + ")"
		}
		out = append(out, s)
	}
	return strings.Join(out, ", ")
}

// told: answers, end and steps in one line.
func told(answers []api.Answer, end, steps int) string {
	s := ""
	for _, a := range answers {
		s += "[" + show(a) + "] "
	}
	return fmt.Sprintf("%s%s, %d steps", s, []string{"on", "done", "steps", "great", "wrong"}[end], steps)
}

// state of a machine: what is told of it, and its goals.
func state(m api.Machine) string {
	var goals []string
	for n := m.First; n != 0; n = m.Goals[n-1].Next {
		t, _, e := heap.Read(m.Heap, m.Goals[n-1].At)
		if e != api.OK {
			return fmt.Sprintf("error %d of goal %d", e, n)
		}
		goals = append(goals, show([]api.Term{t}))
	}
	return told(m.Answers, m.End, m.Steps) + ": " + strings.Join(goals, ", ")
}

// started: a machine that must start.
func started(t *testing.T, p api.Program, q []api.Term) api.Machine {
	m, e := machine.Start(p, q)
	if e != api.OK || machine.Check(p, m) != api.OK {
		t.Fatalf("F1: error %d of Start, %d of Check: %v", e, machine.Check(p, m), m)
	}
	return m
}

// stepped: a machine some steps later, each of which must be right.
func stepped(t *testing.T, p api.Program, m api.Machine, steps int) api.Machine {
	for range steps {
		next, e := machine.Step(p, m)
		if e != api.OK || m.Steps < api.MaxSteps && machine.Check(p, next) != api.OK {
			t.Fatalf("F2: error %d, %d of Check then: %v was %v", e, machine.Check(p, next), next, m)
		}
		m = next
	}
	return m
}

func TestStart(t *testing.T) {
	for _, c := range []struct {
		q, want string
		vars    []string // what the cells of Query are
	}{
		{"true", "on, 0 steps: ", nil},
		{"p", "on, 0 steps: p", nil},
		{"p(V1), V2, !, f(a, g(V1, b))", "on, 0 steps: p(V1), V1, !, f(a, g(V1, b))", []string{"V1", "V1"}},
		{"q(V4, V2)", "on, 0 steps: q(V1, V2)", []string{"V1", "V1", "V1", "V1"}},
		{"a, b, c, d, e, f(V12)", "on, 0 steps: a, b, c, d, e, f(V1)", slices.Repeat([]string{"V1"}, 12)},
	} {
		m := started(t, nil, query(c.q))
		if state(m) != c.want {
			t.Errorf("F1: %s: %s, and must be %s", c.q, state(m), c.want)
		}
		if len(m.Choices) != 0 || len(m.Query) != len(c.vars) || (m.First == 0) != (c.q == "true") {
			t.Errorf("F1: %s: %v", c.q, m)
		}
		for i, at := range m.Query {
			if n, _ := heap.Deref(m.Heap, at); m.Heap[n] != ref(n) || slices.Index(m.Query, at) != i {
				t.Errorf("F1: %s: V%d is no variable of its own: %v", c.q, i+1, m)
			}
		}
	}
	shared := started(t, nil, query("p(V2, V3), q(V3)"))
	first := shared.Goals[shared.First-1]
	_, l, _ := heap.Read(shared.Heap, first.At)
	_, k, _ := heap.Read(shared.Heap, shared.Goals[first.Next-1].At)
	if len(l) != 2 || len(k) != 1 || l[1] != k[0] || !slices.Equal(shared.Query[1:], l) {
		t.Errorf("F1: goals have other variables than the query: %v", shared)
	}
}

func TestStartErrors(t *testing.T) {
	wrong := []api.Term{{Name: "A"}}
	for _, c := range []struct {
		about string
		p     api.Program
		q     []api.Term
		want  api.Errno
	}{
		{"too many clauses", make(api.Program, 31), nil, api.ErrMany},
		{"a head that means something", api.Program{{Head: api.Term{Name: "!"}}}, nil, api.ErrState},
		{"too many goals", nil, make([]api.Term, 7), api.ErrMany},
		{"a goal out of range", nil, []api.Term{{Var: 13}}, api.ErrRange},
		{"the clauses ahead of the query", api.Program{{Head: api.Term{Name: "!"}}}, wrong, api.ErrState},
		{"the query", program("p"), wrong, api.ErrForm},
	} {
		m, e := machine.Start(c.p, c.q)
		if e != c.want || !reflect.DeepEqual(m, api.Machine{}) {
			t.Errorf("F1: %s: error %d, and must be %d alone: %v", c.about, e, c.want, m)
		}
		r, e := machine.Run(c.p, c.q, -1)
		if e != c.want || !reflect.DeepEqual(r, api.Result{}) {
			t.Errorf("F3: %s: error %d, and must be %d alone: %v", c.about, e, c.want, r)
		}
	}
}

// family: a program of which much can be asked.
const family = "p(a); p(b); p(c); q(b); q(c); one(V1) :- p(V1), !; one(d); on(V1) :- p(V2), V1; on(V1); none(V1) :- V1, !, fail; none(V1); id(V1, V1); n(z); n(s(V1)) :- n(V1); r(V1, V2, b) :- p(V1); r(c, V1, V2) :- q(V1); r(V1, V2, V2) :- eq(V1, V2), p(V1)"

func TestStep(t *testing.T) {
	for _, c := range []struct {
		about, q string
		want     []string // behind each step
	}{
		{"an answer, and back to a goal", "n(V1)", []string{"[z] on, 1 steps: n(V1)", "[z] [s(z)] on, 2 steps: n(V1)"}},
		{"all answers that need no goal", "p(V1)", []string{"[a] [b] [c] done, 1 steps: p(V1)"}},
		{"from the left", "p(V1), q(V1)", []string{"on, 1 steps: q(a)", "on, 2 steps: q(b)", "[b] on, 3 steps: q(c)", "[b] [c] done, 4 steps: "}},
		{"it holds", "true, p(V1)", []string{"on, 1 steps: p(V1)"}},
		{"it does not", "p(V1), fail", []string{"on, 1 steps: fail", "on, 2 steps: fail", "on, 3 steps: fail", "done, 4 steps: fail"}},
		{"the same", "eq(f(V1, b), f(a, V2)), p(V1)", []string{"on, 1 steps: p(a)", "[a, b] done, 2 steps: "}},
		{"not the same", "p(V1), eq(f(V2, V1), f(z, b)), q(V2)", []string{"on, 1 steps: eq(f(V1, a), f(z, b)), q(V1)", "on, 2 steps: eq(f(V1, b), f(z, b)), q(V1)", "on, 3 steps: q(z)"}},
		{"no clause", "p, p(V1)", []string{"done, 1 steps: p, p(V1)"}},
		{"a variable", "p(V1), V2", []string{"on, 1 steps: V1", "wrong, 2 steps: V1"}},
		{"a variable that is something", "eq(V1, p(V2)), V1", []string{"on, 1 steps: p(V1)", "[p(a), a] [p(b), b] [p(c), c] done, 2 steps: "}},
		{"a cut", "p(V1), one(V2)", []string{"on, 1 steps: one(V1)", "on, 2 steps: p(V1), !", "on, 3 steps: !", "[a, a] on, 4 steps: one(V1)"}},
		{"a cut of the query", "p(V1), p(V2), !, q(V3)", []string{"on, 1 steps: p(V1), !, q(V1)", "on, 2 steps: !, q(V1)", "on, 3 steps: q(V1)", "[a, a, b] [a, a, c] done, 4 steps: "}},
		{"a cut by a variable", "on(!)", []string{"on, 1 steps: p(V1), !", "on, 2 steps: !", "[] done, 3 steps: "}},
		{"not", "none(p(d)), p(V1)", []string{"on, 1 steps: p(d), !, fail, p(V1)", "on, 2 steps: p(V1)"}},
		{"clauses that do not fit are passed over", "r(V1, a, c)", []string{"on, 1 steps: q(a)", "done, 2 steps: "}},
		{"nothing", "true", []string{"[] done, 0 steps: "}},
	} {
		p := program(family)
		m := started(t, p, query(c.q))
		for i, want := range c.want {
			m = stepped(t, p, m, 1)
			// What is left of a machine that has ended is free.
			got, end := state(m), strings.Index(want, ": ")
			if m.End != 0 {
				got, want = got[:strings.Index(got, ": ")], want[:end]
			}
			if got != want {
				t.Errorf("F2: %s: step %d of %s: %q, and must be %q", c.about, i+1, c.q, got, want)
			}
		}
		if again := stepped(t, p, m, 1); m.End != 0 && fmt.Sprint(again) != fmt.Sprint(m) {
			t.Errorf("F2: %s: what has ended does not stay: %v was %v", c.about, again, m)
		}
	}
}

func TestDocumentsExample(t *testing.T) {
	p := program("p(a); p(V1) :- eq(V1, b)")
	m := stepped(t, p, started(t, p, query("p(V1)")), 1)
	if state(m) != "[a] on, 1 steps: eq(V1, b)" {
		t.Errorf("F2: %s", state(m))
	}
	if m = stepped(t, p, m, 1); told(m.Answers, m.End, m.Steps) != "[a] [b] done, 2 steps" {
		t.Errorf("F2: %s", state(m))
	}
}

// byHand: a machine of `p(a). p(V1) :- eq(V1, b).` that goes on with p(b), p(V1), and has two choices.
func byHand() api.Machine {
	return api.Machine{
		Heap:    []api.Cell{ref(5), fn("p", 1), ref(0), fn("p", 1), ref(5), fn("b", 0)},
		Goals:   []api.Goal{{At: 1}, {At: 3, Next: 1}},
		First:   2,
		Choices: []api.Choice{{Goal: 1, Clause: 1, Heap: 3, Goals: 1}, {Goal: 2, Clause: 1, Heap: 6, Trail: 1, Goals: 2}},
		Trail:   []int{0},
		Query:   []int{0},
	}
}

func TestStepsOfMachinesByHand(t *testing.T) {
	p := program("p(a); p(V1) :- eq(V1, b)")
	long := slices.Repeat([]api.Answer{{{Name: "z"}}}, 50)
	for _, c := range []struct {
		about string
		do    func(m *api.Machine)
		want  string
	}{
		{"as it is", func(m *api.Machine) {}, "on, 1 steps: eq(b, b), p(b)"},
		{"no goals: an answer, no step, and back", func(m *api.Machine) { m.First = 0 }, "[b] on, 0 steps: eq(b, b), p(b)"},
		{"no goals, no choices", func(m *api.Machine) { m.First, m.Choices = 0, nil }, "[b] done, 0 steps: "},
		{"no goals: back to the first choice", func(m *api.Machine) { m.First, m.Choices = 0, m.Choices[:1] }, "[b] on, 0 steps: eq(V1, b)"},
		{"a choice without clauses", func(m *api.Machine) { m.First, m.Choices[1].Clause = 0, 2 }, "[b] on, 0 steps: eq(V1, b)"},
		{"choices without clauses", func(m *api.Machine) { m.First, m.Choices[0].Clause, m.Choices[1].Clause = 0, 2, 2 }, "[b] done, 0 steps: "},
		{"a choice of a variable", func(m *api.Machine) {
			m.First, m.Choices, m.Goals[0].At = 0, m.Choices[:1], 0
		}, "[b] done, 0 steps: "},
		{"a choice of a cut", func(m *api.Machine) { m.First, m.Heap[3], m.Heap[4] = 0, fn("!", 0), ref(4) }, "[b] on, 0 steps: eq(V1, b)"},
		{"cut: more than there are", func(m *api.Machine) { m.Heap[3], m.Heap[4], m.Goals[1].Cut = fn("!", 0), ref(4), 3 }, "on, 1 steps: p(b)"},
		{"a trail that names no variable", func(m *api.Machine) { m.First, m.Choices, m.Trail = 0, m.Choices[:1], []int{0, 1} }, "[b] done, 0 steps: "},
		{"a trail that is longer than the heap then", func(m *api.Machine) { m.First, m.Choices, m.Trail = 0, m.Choices[:1], []int{5, 0, 4, 0} }, "[b] on, 0 steps: eq(V1, b)"},
		{"as many steps as may be", func(m *api.Machine) { m.Steps = api.MaxSteps }, "on, 401 steps: eq(b, b), p(b)"},
		{"it has ended", func(m *api.Machine) { m.End = api.EndSteps }, "steps, 0 steps: p(b), p(b)"},
		{"it has ended without goals", func(m *api.Machine) { m.First, m.End = 0, api.EndGreat }, "great, 0 steps: "},
		{"as many answers as may be", func(m *api.Machine) { m.First, m.Answers = 0, long[:39] }, strings.Repeat("[z] ", 39) + "[b] done, 0 steps: "},
		{"one less", func(m *api.Machine) { m.First, m.Answers = 0, long[:38] }, strings.Repeat("[z] ", 38) + "[b] on, 0 steps: eq(b, b), p(b)"},
		{"more answers already", func(m *api.Machine) { m.First, m.Answers = 0, long }, strings.Repeat("[z] ", 50) + "[b] done, 0 steps: "},
		{"answers that are no terms stay", func(m *api.Machine) { m.Answers = []api.Answer{nil, {{Var: 99}, {Name: "A B"}}} }, "[] [V99, A B] on, 1 steps: eq(b, b), p(b)"},
		{"no variables", func(m *api.Machine) { m.First, m.Query = 0, nil }, "[] on, 0 steps: eq(b, b), p(b)"},
		{"a variable's cell twice", func(m *api.Machine) { m.First, m.Query = 0, []int{2, 1, 2} }, "[b, p(b), b] on, 0 steps: eq(b, b), p(b)"},
	} {
		m := byHand()
		c.do(&m)
		if e := machine.Check(p, m); e != api.OK {
			t.Errorf("F1: %s: error %d", c.about, e)
			continue
		}
		got, want := state(stepped(t, p, m, 1)), c.want
		if !strings.Contains(want, " on, ") && !strings.HasPrefix(want, "on, ") {
			got, want = got[:strings.Index(got, ": ")], want[:strings.Index(want, ": ")]
		}
		if got != want {
			t.Errorf("F2: %s: %q, and must be %q", c.about, got, want)
		}
	}
}

func TestFullMachines(t *testing.T) {
	p := program("p :- q, q; q; r(a); r(b) :- p")
	for _, c := range []struct {
		about      string
		goal       api.Cell
		cells      int // how many are left
		goals      int
		end, steps int
	}{
		{"no cell is left, none is needed", fn("true", 0), 0, 0, 0, 1},
		{"no cell is left for a head", fn("q", 0), 0, 9, api.EndGreat, 1},
		{"no cell is left for a head that would not fit", fn("r", 1), 0, 9, api.EndGreat, 1},
		{"one cell is left for a head", fn("q", 0), 1, 0, 0, 1},
		{"no cells are left for a body", fn("p", 0), 1, 9, api.EndGreat, 1},
		{"a cell too few is left for a body", fn("p", 0), 2, 9, api.EndGreat, 1},
		{"as many cells as are needed", fn("p", 0), 3, 9, 0, 1},
		{"no goals are left", fn("p", 0), 9, 0, api.EndGreat, 1},
		{"one goal is left", fn("p", 0), 9, 1, api.EndGreat, 1},
		{"as many goals as are needed", fn("p", 0), 9, 2, 0, 1},
	} {
		m := api.Machine{Heap: []api.Cell{c.goal, ref(2), fn("true", 0)}, Goals: []api.Goal{{At: 2}, {At: 0, Next: 1}}, First: 2}
		for len(m.Heap) < api.MaxHeap-c.cells {
			m.Heap = append(m.Heap, ref(len(m.Heap)))
		}
		for len(m.Goals) < api.MaxGoals-c.goals {
			m.Goals = append(m.Goals, api.Goal{At: 2})
		}
		x := stepped(t, p, m, 1)
		if x.End != c.end || x.Steps != c.steps || x.End == 0 && x.First == 0 {
			t.Errorf("F2: %s: end %d, %d steps, and must be %d, %d", c.about, x.End, x.Steps, c.end, c.steps)
		}
	}
}

// built: goals by which V7 has 1997 parts.
const built = "eq(f(V2, V3, V4, V5), f(k(V1, V1, V1, V1), k(V2, V2, V2, V2), k(V3, V3, V3, V3), k(V4, V4, V4, V4))), eq(f(V6, V7), f(k(V5, V5, V5, V5), k(V6, k(V5, k(V4, V4, V4, k(V3, k(V2, V2))))))), "

func TestGreatSteps(t *testing.T) {
	for _, c := range []struct{ about, p, q, want string }{
		{"as much as may be in one step", "p(V1, a); p(V1, b)", "p(V7, b), fail", "done, 4 steps"},
		{"more in one step", "p(V1, a, c); p(V1, b, c)", "p(V7, b, c), fail", "great, 3 steps"},
		{"a choice anew", "p(V1, b); p(V1, c); q(V1, c); q(V1, d)", "p(V7, V8), q(V7, V8), fail", "done, 6 steps"},
		{"as much as may be in one choice", "p(V1, V2) :- fail; p(V1, a); p(V1, b)", "p(V7, b), fail", "done, 5 steps"},
		{"more in one choice", "p(V1, V2, V3) :- fail; p(V1, a, c); p(V1, b, c)", "p(V7, b, c), fail", "great, 4 steps"},
		{"the same", "", "eq(f(V7, V7, V2), f(V7, V7, k(V1, V1, V1, V1))), fail", "done, 4 steps"},
		{"the same, too much", "", "eq(f(V7, V7, V2, a), f(V7, V7, k(V1, V1, V1, V1), a)), fail", "great, 3 steps"},
		{"an answer too great", "", "true", "great, 3 steps"},
		{"too great, and what was found", "p(a); p(c)", "p(V8), eq(V8, c)", "great, 5 steps"},
	} {
		p := program(c.p)
		m := stepped(t, p, started(t, p, query(built+c.q)), 9)
		if got := told(m.Answers, m.End, m.Steps); got != c.want {
			t.Errorf("F2: %s: %q, and must be %q", c.about, got, c.want)
		}
	}
}

func TestGreatAnswers(t *testing.T) {
	// V1 to V4 have 1, 5, 21 and 85 parts.
	some := "eq(f(V2, V3, V4), f(k(V1, V1, V1, V1), k(V2, V2, V2, V2), k(V3, V3, V3, V3))), "
	p := program("p(a); p(b); p(k(V1, V1, V1, V1)) :- eq(V1, k(V2, V2, V2, V2)), eq(V2, k(a, a, a, a)); p(c)")
	for _, c := range []struct {
		about, q   string
		found, end int
	}{
		{"as great as may be", "eq(V5, k(V3, V3, V3, s(s(s(V3)))))", 1, api.EndDone},
		{"too great", "eq(V5, k(V3, V3, V3, s(s(s(s(V3))))))", 0, api.EndGreat},
		{"too great by a variable that is nothing", "eq(V5, k(V3, V3, V3, s(s(s(V3))))), eq(V6, V6)", 0, api.EndGreat},
		{"too great, and what was found", "p(V5), p(V6)", 10, api.EndGreat}, // each of them is 1, 1, 85 and 1 parts; 85 twice are too many
	} {
		m := stepped(t, p, started(t, p, query(some+c.q)), 40)
		if len(m.Answers) != c.found || m.End != c.end {
			t.Errorf("F2: %s: %d answers, end %d, and must be %d, end %d", c.about, len(m.Answers), m.End, c.found, c.end)
		}
	}
}

// TestGreatestClauses: a program of the greatest clauses, entered as often as may be, has room for all of them: Run is Solve.
func TestGreatestClauses(t *testing.T) {
	big := strings.Repeat("s(", 28) + "V1" + strings.Repeat(")", 28)
	wide := "f(" + big + ", g(a, " + strings.Repeat("s(", 27) + "V2" + strings.Repeat(")", 27) + "))" // 60 parts
	nothing := "e(" + strings.Repeat("s(", 58) + "a" + strings.Repeat(")", 58) + ")"
	goal := "p(" + strings.Repeat("s(", 58) + "a" + strings.Repeat(")", 58) + ")"
	p := program("p(" + strings.Repeat("s(", 58) + "V1" + strings.Repeat(")", 58) + ") :- " + goal + strings.Repeat(", "+nothing, 5) + "; p(V1) :- " + wide)
	for _, q := range []string{goal, goal + strings.Repeat(", "+wide, 5)} {
		for _, steps := range []int{1, 399, 400} {
			r, e := machine.Run(p, query(q), steps)
			want, _ := solve.Solve(p, query(q), steps)
			if e != api.OK || fmt.Sprint(r) != fmt.Sprint(want) || r.End != api.EndSteps {
				t.Errorf("F3: %d steps: %s, error %d, and must be %s", steps, told(r.Answers, r.End, r.Steps), e, told(want.Answers, want.End, want.Steps))
			}
		}
	}
}

func TestRun(t *testing.T) {
	p := program(family)
	for _, c := range []struct {
		q     string
		steps int
		want  string
	}{
		{"p(V1), q(V1)", 0, "steps, 0 steps"},
		{"p(V1), q(V1)", 3, "[b] steps, 3 steps"},
		{"p(V1), q(V1)", 4, "[b] [c] done, 4 steps"},
		{"p(V1)", 1, "[a] [b] [c] done, 1 steps"},
		{"true", 0, "[] done, 0 steps"},
		{"V1", 0, "steps, 0 steps"},
		{"V1", 1, "wrong, 1 steps"},
		{"n(V1)", 2, "[z] [s(z)] steps, 2 steps"},
		{"eq(V1, f(V5, V3)), eq(V2, V3)", 9, "[f(V1, V2), V2, V2, V3, V1] done, 2 steps"},
	} {
		r, e := machine.Run(p, query(c.q), c.steps)
		if got := told(r.Answers, r.End, r.Steps); got != c.want || e != api.OK {
			t.Errorf("F3: %s: %q, error %d, and must be %q", c.q, got, e, c.want)
		}
	}
	for _, steps := range []int{-1, api.MaxSteps + 1, 1 << 40} {
		if r, e := machine.Run(p, nil, steps); e != api.ErrRange || !reflect.DeepEqual(r, api.Result{}) {
			t.Errorf("F3: %d steps: %v, error %d", steps, r, e)
		}
	}
	if r, e := machine.Run(p, query("n(V1)"), api.MaxSteps); e != api.OK || len(r.Answers) != api.MaxAnswers || r.End != api.EndDone || r.Steps != 40 {
		t.Errorf("F3: %d answers, end %d, %d steps, error %d", len(r.Answers), r.End, r.Steps, e)
	}
}

// lists: all lists of arguments in terms, these first.
func lists(terms []api.Term) [][]api.Term {
	out := [][]api.Term{terms}
	for _, t := range terms {
		out = append(out, lists(t.Args)...)
	}
	return out
}

func TestOwnMemory(t *testing.T) {
	p := program(family)
	deep := query("f(g(a, V1), g(a, V1)), h")
	m := byHand()
	m.Answers = append(make([]api.Answer, 0, 4), deep, deep[:1])
	m.Heap, m.Goals, m.Choices = slices.Grow(m.Heap, 90), slices.Grow(m.Goals, 90), slices.Grow(m.Choices, 90)
	m.Trail, m.Query = slices.Grow(m.Trail, 90), slices.Grow(m.Query, 9)
	all := func() string {
		return fmt.Sprint(m.Heap[:90], m.Goals[:90], m.Choices[:90], m.Trail[:90], m.Query[:9], m.Answers[:4], m.First, m.Steps, m.End, p)
	}
	before := all()
	m.First = 0
	next := stepped(t, p, m, 1)
	ended := m
	ended.End = api.EndDone
	still := stepped(t, p, ended, 1)
	if m.First = 2; all() != before {
		t.Fatal("P2: what was handed in has changed")
	}
	want, wantStill := fmt.Sprint(next), fmt.Sprint(still)
	clear(m.Heap)
	clear(m.Goals)
	clear(m.Choices)
	m.Trail[0], m.Query[0] = 3, 3
	deep[0].Args[0].Args[0].Name, deep[1].Name = "changed", "changed"
	p[0].Head.Args[0].Name = "changed"
	if fmt.Sprint(next) != want || fmt.Sprint(still) != wantStill {
		t.Error("P2: a later change of what was handed in is seen")
	}
	for _, a := range next.Answers {
		for _, list := range lists(a) {
			full := list[:cap(list)]
			rest := slices.Clone(full)
			for i := range full {
				full[i] = api.Term{Name: "changed"}
			}
			if n := strings.Count(fmt.Sprint(next), "changed"); n != len(list) {
				t.Fatalf("P2: %d parts of the answers changed by a list of %d", n, len(list))
			}
			copy(full, rest)
		}
	}
}

func TestEndlessAnswers(t *testing.T) {
	for _, n := range []int{1, 2, 4} {
		endless := make([]api.Term, n)
		for i := range endless {
			endless[i] = api.Term{Name: "s", Args: endless}
		}
		m := byHand()
		m.Answers = []api.Answer{endless}
		if x, e := machine.Step(program("p(a); p(b)"), m); e != api.ErrMany || !reflect.DeepEqual(x, api.Machine{}) {
			t.Errorf("P1: %d terms within themselves: error %d", n, e)
		}
	}
	deep := []api.Term{{Name: "a"}}
	for range 1<<16 - 1 {
		deep = []api.Term{{Name: "s", Args: deep}}
	}
	m := byHand()
	m.Answers = []api.Answer{deep}
	x := stepped(t, program("p(a); p(b)"), m, 1)
	n := 0
	for l := []api.Term(x.Answers[0]); len(l) > 0; l = l[0].Args {
		n++
	}
	if n != 1<<16 {
		t.Errorf("P4: %d parts within one another, and must be 2^16", n)
	}
}
