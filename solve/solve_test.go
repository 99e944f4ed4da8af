package solve_test

import (
	"fmt"
	"math/rand"
	"reflect"
	"slices"
	"strings"
	"testing"

	"palisade/api"
	"palisade/solve"
	"palisade/text"
)

// program of lines (each without its full stop).
func program(lines ...string) api.Program {
	s := ""
	for _, l := range lines {
		s += l + ".\n"
	}
	p, at, e := text.Parse(s)
	if e != api.OK {
		panic(fmt.Sprintf("no program, at %d: %s", at, s))
	}
	return p
}

// query of a text.
func query(s string) []api.Term {
	q, at, e := text.ParseGoals(s)
	if e != api.OK {
		panic(fmt.Sprintf("no query, at %d: %s", at, s))
	}
	return q
}

// show terms, whatever their variables.
func show(l []api.Term) string {
	var out []string
	for _, t := range l {
		s := t.Name
		if t.Var != 0 {
			s = fmt.Sprintf("V%d", t.Var)
		}
		if len(t.Args) > 0 {
			s += "(" + show(t.Args) + ")"
		}
		out = append(out, s)
	}
	return strings.Join(out, ", ")
}

// told: a result in one line.
func told(r api.Result) string {
	var out []string
	for _, a := range r.Answers {
		out = append(out, "["+show(a)+"]")
	}
	return fmt.Sprintf("%s %s, %d steps", strings.Join(out, " "), []string{"none", "done", "steps", "great", "wrong"}[r.End], r.Steps)
}

func TestSolve(t *testing.T) {
	pq := []string{"p(a)", "p(b)", "p(c)", "q(b)", "q(c)"}
	cuts := append(pq, "one(V1) :- p(V1), !", "one(d)", "two(V1, V2) :- p(V1), one(V2)", "on(V1) :- p(V2), V1", "on(V1)", "none(V1) :- V1, !, fail", "none(V1)", "late :- fail", "late :- p(V1), !, q(V1)", "late")
	for _, c := range []struct {
		about string
		p     []string
		q     string
		steps int
		want  string
	}{
		{"D1: the document's example", []string{"p(a)", "p(V1) :- eq(V1, b)"}, "p(V1)", 9, "[a] [b] done, 2 steps"},
		{"D1: goals from the left", pq, "p(V1), q(V1)", 9, "[b] [c] done, 4 steps"},
		{"D1: the body stands ahead of the rest", []string{"a :- b, c", "b", "c", "d"}, "a, d", 9, "[] done, 4 steps"},
		{"D1: it holds", nil, "true, true", 9, "[] done, 2 steps"},
		{"D1: it does not", nil, "fail, true", 9, " done, 1 steps"},
		{"D1: the same", nil, "eq(f(V1, b), f(a, V2))", 9, "[a, b] done, 1 steps"},
		{"D1: not the same", nil, "eq(a, b), true", 9, " done, 1 steps"},
		{"D1: within itself", nil, "eq(V1, f(V2)), eq(V2, f(V1))", 9, " done, 2 steps"},
		{"D1: no clause", nil, "p", 9, " done, 1 steps"},
		{"D1: names with other arguments mean nothing", []string{"true(V1)", "fail(b)", "eq(c)", "eq(a, b, c)"}, "true(a), fail(V1), eq(V2), eq(V3, b, c)", 9, "[b, c, a] done, 4 steps"},
		{"D1: names with as many arguments alone", []string{"p(a)", "p", "p(a, b)"}, "p(V1)", 9, "[a] done, 1 steps"},
		{"D1: a variable", nil, "V1", 9, " wrong, 1 steps"},
		{"D1: a variable that is something", nil, "eq(V1, eq(V2, a)), V1", 9, "[eq(a, a), a] done, 2 steps"},
		{"D1: a variable that is another", nil, "eq(V1, V2), V1", 9, " wrong, 2 steps"},
		{"D1: wrong, and what was found", []string{"p(true)", "p(V1)"}, "p(V1), V1", 9, "[true] wrong, 3 steps"},
		{"D1: variables of a clause's own", []string{"id(V1, V1)"}, "id(V1, a), id(V2, b), id(V3, V4)", 9, "[a, b, V1, V1] done, 3 steps"},
		{"D1: each time that it is called", []string{"n(z, V1)", "n(s(V1), c(V2, V3)) :- n(V1, V3)"}, "n(s(s(z)), V1)", 9, "[c(V1, c(V2, V3))] done, 3 steps"},
		{"D1: a clause that does not fit is as if not tried", []string{"p(V1, V1, b)", "p(V1, V2, c)"}, "p(V1, V2, c)", 9, "[V1, V2] done, 1 steps"},
		{"D1: cut: no clause behind", cuts, "one(V1)", 9, "[a] done, 3 steps"},
		{"D1: cut: not the choices ahead of the call", cuts, "two(V1, V2)", 99, "[a, a] [b, a] [c, a] done, 11 steps"},
		{"D1: cut: of the query: all", cuts, "p(V1), p(V2), !", 9, "[a, a] done, 3 steps"},
		{"D1: cut: choices behind it are made", cuts, "p(V1), !, p(V2)", 9, "[a, a] [a, b] [a, c] done, 3 steps"},
		{"D1: cut: of a clause behind the first", cuts, "q(V1), late", 99, " done, 11 steps"},
		{"D1: cut: by a variable, of the clause in which it stands", cuts, "q(V1), on(!)", 99, "[b] [c] done, 7 steps"},
		{"D1: cut: if there are no choices", cuts, "!, !", 9, "[] done, 2 steps"},
		{"D1: not", cuts, "none(fail), none(none(p(b)))", 99, "[] done, 7 steps"},
		{"D2: all is as it was", []string{"p(V1, V2) :- eq(V1, a), eq(V2, b), fail", "p(V1, V2)"}, "p(V1, V2)", 9, "[V1, V2] done, 4 steps"},
		{"D2: the last choice first", []string{"p(a)", "p(b)"}, "p(V1), p(V2)", 9, "[a, a] [a, b] [b, a] [b, b] done, 3 steps"},
		{"D2: those behind are tried, in their order", []string{"p(V1, a)", "p(b, V1)", "p(c, V1)", "p(V1, d)"}, "p(c, V1)", 9, "[a] [V1] [d] done, 1 steps"},
		{"D3: each variable to the greatest one", pq, "p(V4)", 1, "[V1, V2, V3, a] [V1, V2, V3, b] [V1, V2, V3, c] done, 1 steps"},
		{"D3: numbered as they first stand", nil, "eq(V1, f(V5, V3)), eq(V2, V3)", 9, "[f(V1, V2), V2, V2, V3, V1] done, 2 steps"},
		{"D3: no variables", []string{"p", "p"}, "p", 9, "[] [] done, 1 steps"},
		{"D3: no goals", nil, "true", 0, "[] done, 0 steps"},
		{"D4: no steps", pq, "p(V1)", 0, " steps, 0 steps"},
		{"D4: no steps ahead of wrong", nil, "V1", 0, " steps, 0 steps"},
		{"D4: answers without a step more", pq, "p(V1)", 1, "[a] [b] [c] done, 1 steps"},
		{"D4: a goal is to be taken", pq, "p(V1), q(V1)", 3, "[b] steps, 3 steps"},
		{"D4: all steps, and no goal", pq, "p(V1), q(V1)", 4, "[b] [c] done, 4 steps"},
		{"D4: without end", []string{"l :- l"}, "l", api.MaxSteps, " steps, 400 steps"},
	} {
		r, e := solve.Solve(program(c.p...), query(c.q), c.steps)
		if e != api.OK || told(r) != c.want {
			t.Errorf("%s: %q, error %d, and must be %q", c.about, told(r), e, c.want)
		}
	}
}

func TestManyVariables(t *testing.T) {
	p := program("n(z, nil)", "n(s(V1), c(V2, V3)) :- n(V1, V3)")
	r, e := solve.Solve(p, query("n("+strings.Repeat("s(", 14)+"z"+strings.Repeat(")", 14)+", V1)"), 99)
	want := "nil"
	for n := 14; n > 0; n-- {
		want = fmt.Sprintf("c(V%d, %s)", n, want)
	}
	if want = "[" + want + "] done, 15 steps"; e != api.OK || told(r) != want {
		t.Errorf("D3: %q, and must be %q", told(r), want)
	}
}

func TestManyAnswers(t *testing.T) {
	nat := program("nat(z)", "nat(s(V1)) :- nat(V1)")
	r, e := solve.Solve(nat, query("nat(V1)"), api.MaxSteps)
	if e != api.OK || len(r.Answers) != api.MaxAnswers || r.End != api.EndDone || r.Steps != 40 {
		t.Errorf("D3: %d answers, end %d, %d steps, and must be 40, done, 40", len(r.Answers), r.End, r.Steps)
	}
	if r, _ = solve.Solve(nat, query("nat(V1)"), 39); len(r.Answers) != 39 || r.End != api.EndSteps {
		t.Errorf("D4: %d answers, end %d, and must be 39, steps", len(r.Answers), r.End)
	}
	seven := program("p(a)", "p(b)", "p(c)", "p(d)", "p(e)", "p(f)", "p(g)")
	if r, _ = solve.Solve(seven, query("p(V1), p(V2)"), 9); len(r.Answers) != 40 || r.End != api.EndDone || r.Steps != 7 {
		t.Errorf("D3: %s", told(r))
	}
}

// built: goals by which V7 has 1997 parts.
const built = "eq(f(V2, V3, V4, V5), f(k(V1, V1, V1, V1), k(V2, V2, V2, V2), k(V3, V3, V3, V3), k(V4, V4, V4, V4))), eq(f(V6, V7), f(k(V5, V5, V5, V5), k(V6, k(V5, k(V4, V4, V4, k(V3, k(V2, V2))))))), "

func TestWorkOfSteps(t *testing.T) {
	one := "p(V1, b)" // of p(V7, b): 1 + 1 + 1997 + 1
	for _, c := range []struct {
		about string
		p     []string
		q     string
		want  string
	}{
		{"D4: as much as may be in one step", []string{"p(V1, a)", one}, "p(V7, b), fail", " done, 4 steps"},
		{"D4: more in one step", []string{"p(V1, a, c)", "p(V1, b, c)"}, "p(V7, b, c), fail", " great, 3 steps"},
		{"D4: other names are no work", []string{"p(V1, a)", "q(V1, b)", "p(V1)", one}, "p(V7, b), fail", " done, 4 steps"},
		{"D4: what does not fit is work", []string{"p(a, V1)", "p(V1, a)", one}, "p(V7, b), fail", " great, 3 steps"},
		{"D4: each step anew", []string{"p(V1, a)", one}, "p(V7, b), p(V7, b), fail", " done, 5 steps"},
		{"D4: the same", nil, "eq(f(V7, V7, V2), f(V7, V7, k(V1, V1, V1, V1))), fail", " done, 4 steps"},
		{"D4: the same, too much", nil, "eq(f(V7, V7, V2, a), f(V7, V7, k(V1, V1, V1, V1), a)), fail", " great, 3 steps"},
		{"D4: a choice anew", []string{"p(V1, b)", "p(V1, c)", "q(V1, c)", "q(V1, d)"}, "p(V7, V8), q(V7, V8), fail", " done, 6 steps"},
		{"D4: each choice anew", []string{"p(V1, V2)", "p(V1, a)", "p(V1, c)"}, "p(V7, b), p(V7, b), fail", " done, 5 steps"},
		{"D4: as much as may be in one choice", []string{"p(V1, V2) :- fail", "p(V1, a)", "p(V1, b)"}, "p(V7, b), fail", " done, 5 steps"},
		{"D4: more in one choice", []string{"p(V1, V2, V3) :- fail", "p(V1, a, c)", "p(V1, b, c)"}, "p(V7, b, c), fail", " great, 4 steps"},
		{"D4: parts of arguments, as many as may be", []string{"p(V1, V2)"}, "p(g(V7, V7), a(a)), fail", " done, 4 steps"},
		{"D4: one part more", []string{"p(V1, V2)"}, "p(g(V7, V7), g(a, a)), fail", " great, 3 steps"},
		{"D4: false by the last pair that may be looked at", nil, "eq(f(V7, V7, k(a, a, a, a)), f(V7, V7, k(a, a, a, b)))", " done, 3 steps"},
		{"D4: false by what may not be looked at any more", nil, "eq(f(V7, V7, k(a, a, a, s(a))), f(V7, V7, k(a, a, a, s(b))))", " great, 3 steps"},
	} {
		r, e := solve.Solve(program(c.p...), query(built+c.q), 99)
		if e != api.OK || told(r) != c.want {
			t.Errorf("%s: %q, error %d, and must be %q", c.about, told(r), e, c.want)
		}
	}
}

func TestGreatAnswers(t *testing.T) {
	// V1 to V4 have 1, 5, 21 and 85 parts.
	some := "eq(f(V2, V3, V4), f(k(V1, V1, V1, V1), k(V2, V2, V2, V2), k(V3, V3, V3, V3))), "
	for _, c := range []struct {
		about, q   string
		found, end int
	}{
		{"D4: as great as may be", "eq(V5, k(V3, V3, V3, s(s(s(V3)))))", 1, api.EndDone},
		{"D4: too great", "eq(V5, k(V3, V3, V3, s(s(s(s(V3))))))", 0, api.EndGreat},
		{"D4: too great by a variable that is nothing", "eq(V5, k(V3, V3, V3, s(s(s(V3))))), true(V6)", 0, api.EndGreat},
		{"D4: too great, and what was found", "p(V5)", 2, api.EndGreat},
	} {
		p := program("true(V1)", "p(a)", "p(V1) :- eq(V1, b)", "p(k(k(V1, V1, V1, V1), k(V1, V1, V1, V1), k(V1, V1, V1, V1), V1)) :- eq(V1, k(s(V2), s(V2), s(V2), s(V2)))", "p(c)")
		r, e := solve.Solve(p, query(some+c.q), 99)
		if e != api.OK || len(r.Answers) != c.found || r.End != c.end {
			t.Errorf("%s: %d answers, end %d, error %d, and must be %d, %d, 0", c.about, len(r.Answers), r.End, e, c.found, c.end)
		}
	}
}

func TestErrors(t *testing.T) {
	wrong := api.Term{Name: "A"}
	endless := make([]api.Term, 1)
	endless[0] = api.Term{Name: "s", Args: endless}
	right := program("p(a)")
	for _, c := range []struct {
		about string
		p     api.Program
		q     []api.Term
		steps int
		want  api.Errno
	}{
		{"D5: too many clauses", make(api.Program, 31), nil, 1, api.ErrMany},
		{"D5: a head that is wrong", api.Program{{Head: wrong}}, nil, 1, api.ErrForm},
		{"D5: a head that is a goal of its own", program("p(a)")[:0:0], []api.Term{wrong}, 1, api.ErrForm},
		{"D5: a head that means something", api.Program{{Head: api.Term{Name: "!"}}}, nil, 1, api.ErrState},
		{"D5: too many goals", right, make([]api.Term, 7), 1, api.ErrMany},
		{"D5: a goal out of range", right, []api.Term{{Var: 13}}, 1, api.ErrRange},
		{"D5: too few steps", right, nil, -1, api.ErrRange},
		{"D5: too many steps", right, nil, api.MaxSteps + 1, api.ErrRange},
		{"D5: the clauses ahead of the query", api.Program{{Head: api.Term{Name: "!"}}}, []api.Term{wrong}, 1, api.ErrState},
		{"D5: the query ahead of the steps", right, []api.Term{wrong}, -1, api.ErrForm},
		{"P1: a clause within itself", api.Program{{Head: right[0].Head, Body: endless}}, nil, 1, api.ErrMany},
		{"P1: a query within itself", right, endless, 1, api.ErrMany},
	} {
		r, e := solve.Solve(c.p, c.q, c.steps)
		if e != c.want || !reflect.DeepEqual(r, api.Result{}) {
			t.Errorf("%s: %v, error %d, and must be error %d alone", c.about, r, e, c.want)
		}
	}
	for _, steps := range []int{0, api.MaxSteps} {
		if _, e := solve.Solve(right, nil, steps); e != api.OK {
			t.Errorf("D5: %d steps: error %d", steps, e)
		}
	}
}

// dice draw programs and queries, as texts.
type dice struct{ *rand.Rand }

// of: one of some texts.
func (d dice) of(l ...string) string { return l[d.Intn(len(l))] }

// term of at most that depth.
func (d dice) term(depth, vars int) string {
	switch n := d.Intn(8); {
	case n < 3:
		return fmt.Sprintf("V%d", 1+d.Intn(vars))
	case n < 5 || depth == 0:
		return d.of("a", "b", "true", "fail", "!")
	case n < 6:
		return d.of("s", "p") + "(" + d.term(depth-1, vars) + ")"
	default:
		t := d.term(depth-1, vars)
		return "h(" + t + ", " + d.of(t, t, d.term(0, vars)) + ")"
	}
}

// head of a clause, or a goal that calls one.
func (d dice) head(vars int) string {
	switch d.Intn(6) {
	case 0:
		return "r"
	case 1, 2:
		return d.of("q", "k") + "(" + d.term(1, vars) + ", " + d.term(2, vars) + ")"
	default:
		return d.of("p", "s", "t") + "(" + d.term(2, vars) + ")"
	}
}

// goal of a body or a query.
func (d dice) goal(vars int) string {
	switch n := d.Intn(40); {
	case n < 5:
		return "!"
	case n < 6:
		return "fail"
	case n < 7:
		return "true"
	case n < 9:
		return fmt.Sprintf("V%d", 1+d.Intn(vars))
	case n < 14:
		return "eq(" + d.term(2, vars) + ", " + d.term(2, vars) + ")"
	default:
		return d.head(vars)
	}
}

// goals: at most so many.
func (d dice) goals(most, vars int) string {
	var l []string
	for range 1 + d.Intn(most) {
		l = append(l, d.goal(vars))
	}
	return strings.Join(l, ", ")
}

// program of clauses.
func (d dice) program() api.Program {
	var l []string
	if d.Intn(4) == 0 { // so that something grows
		l = append(l, "k(V1, h(V1, V1))", "t(V1) :- k(V1, V2), t(V2)")
	}
	for range 3 + d.Intn(16) {
		c := d.head(3)
		if d.Intn(5) > 1 {
			c += " :- " + d.goals(3, 4)
		}
		l = append(l, c)
	}
	return program(l...)
}

// TestHeldAgainstUnwinding: programs that are drawn are searched by plain recursion, too; and with more steps all is found that was found with fewer.
func TestHeldAgainstUnwinding(t *testing.T) {
	d := dice{rand.New(rand.NewSource(5))}
	ends, found := map[int]int{}, 0
	for range 1500 {
		p, q := d.program(), query(d.goals(4, 4))
		all, e := solve.Solve(p, q, api.MaxSteps)
		if e != api.OK {
			t.Fatalf("error %d of %v, %v", e, p, q)
		}
		ends[all.End]++
		found += len(all.Answers)
		for _, steps := range []int{0, 1, 2, 3, 5, 8, 13, 40, 150, api.MaxSteps} {
			r, _ := solve.Solve(p, q, steps)
			if got, want := told(r), told(unwinding(p, q, steps)); got != want {
				t.Fatalf("D1 to D4: %v, %v, %d steps: %q, and must be %q", p, q, steps, got, want)
			}
			n := len(r.Answers)
			if n > len(all.Answers) || fmt.Sprint(r.Answers) != fmt.Sprint(all.Answers[:n]) || r.Steps > steps {
				t.Fatalf("D4: %v, %v: %q by %d steps, and more by more", p, q, told(r), steps)
			}
		}
	}
	if ends[api.EndDone] < 300 || ends[api.EndSteps] < 50 || ends[api.EndGreat] < 20 || ends[api.EndWrong] < 50 || found < 500 {
		t.Errorf("what was drawn is too much alike: %v, %d answers", ends, found)
	}
}

// lists: all lists of arguments in terms, these first.
func lists(terms []api.Term) [][]api.Term {
	out := [][]api.Term{terms}
	for _, t := range terms {
		if len(t.Args) > 0 {
			out = append(out, lists(t.Args)...)
		}
	}
	return out
}

func TestOwnMemory(t *testing.T) {
	spare := query("p(V1, V2), eq(V3, g(V1, h(V2, V2))), spare(V9)")
	q := spare[:2]
	p := append(make(api.Program, 0, 4), program("p(f(a, V1), V1)", "p(V1, f(V1, V1)) :- eq(V1, g(b, V2))")...)
	before := fmt.Sprint(p[:cap(p)], spare)
	r, e := solve.Solve(p, q, 9)
	if e != api.OK || len(r.Answers) != 2 {
		t.Fatalf("%s, error %d", told(r), e)
	}
	want := told(r)
	for _, a := range r.Answers {
		for _, list := range lists(a) {
			full := list[:cap(list)]
			rest := slices.Clone(full)
			for i := range full {
				full[i] = api.Term{Name: "changed"}
			}
			if n := strings.Count(told(r), "changed"); n != len(list) {
				t.Fatalf("P2: %d parts of the answers changed by a list of %d", n, len(list))
			}
			copy(full, rest)
		}
	}
	if fmt.Sprint(p[:cap(p)], spare) != before {
		t.Error("P2: what was handed in has changed")
	}
	q[0].Args[0], p[0].Head.Args[0].Args[0].Name = api.Term{Name: "x"}, "x"
	if told(r) != want {
		t.Error("P2: a later change of what was handed in is seen")
	}
}
