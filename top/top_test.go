package top_test

import (
	"fmt"
	"math"
	"reflect"
	"slices"
	"strings"
	"testing"

	"palisade/api"
	"palisade/collect"
	"palisade/machine"
	"palisade/text"
	"palisade/top"
)

// lined: the text of a program of clauses (each without its full stop), "; " between.
func lined(s string) string {
	if s == "" {
		return s
	}
	return strings.ReplaceAll(s, "; ", ".\n") + ".\n"
}

// program of clauses.
func program(s string) api.Program {
	p, at, e := text.Parse(lined(s))
	if e != api.OK {
		panic(fmt.Sprintf("no program, at %d: %s", at, s))
	}
	return p
}

// query of a text.
func query(s string) []api.Term {
	q, at, e := text.ParseGoals(s)
	if e != api.OK {
		panic(fmt.Sprintf("no query, at %d: %s", at, s))
	}
	return q
}

// show terms, whatever their variables.
func show(l []api.Term) string {
	var out []string
	for _, t := range l {
		s := t.Name
		if t.Var != 0 {
			s = fmt.Sprintf("V%d", t.Var)
		}
		if len(t.Args) > 0 {
			s += "(" + show(t.Args) + ")"
		}
		out = append(out, s)
	}
	return strings.Join(out, ", ")
}

// word: how a search ended.
func word(end int) string {
	return []string{"on", "done", "steps", "great", "wrong"}[end]
}

// told: a result in one line.
func told(r api.Result) string {
	s := ""
	for _, a := range r.Answers {
		s += "[" + show(a) + "] "
	}
	return fmt.Sprintf("%s%s, %d steps", s, word(r.End), r.Steps)
}

// family: a program of which much can be asked.
const family = "p(a); p(b); p(c); q(b); q(c); one(V1) :- p(V1), !; one(d); none(V1) :- V1, !, fail; none(V1); n(z); n(s(V1)) :- n(V1); up(V1) :- up(h(V1, V1)); on(V1) :- p(V2), on(V1); app(nil, V1, V1); app(k(V1, V2), V3, k(V1, V4)) :- app(V2, V3, V4)"

func TestRun(t *testing.T) {
	for _, c := range []struct {
		q     string
		steps int
		want  string
	}{
		{"p(V1), q(V1)", 0, "steps, 0 steps"},
		{"p(V1), q(V1)", 3, "[b] steps, 3 steps"},
		{"p(V1), q(V1)", 4, "[b] [c] done, 4 steps"},
		{"p(V1), q(V1)", 400, "[b] [c] done, 4 steps"},
		{"p(V1)", 1, "[a] [b] [c] done, 1 steps"},
		{"true", 0, "[] done, 0 steps"},
		{"true", 400, "[] done, 0 steps"},
		{"true, true", 1, "steps, 1 steps"},
		{"V1", 0, "steps, 0 steps"},
		{"V1", 1, "wrong, 1 steps"},
		{"p(V2), V1", 9, "wrong, 2 steps"},
		{"p", 9, "done, 1 steps"},
		{"n(V2)", 2, "[V1, z] [V1, s(z)] steps, 2 steps"},
		{"none(p(d)), one(V1)", 9, "[a] done, 5 steps"},
		{"app(V1, V2, k(a, k(b, nil)))", 9, "[nil, k(a, k(b, nil))] [k(a, nil), k(b, nil)] [k(a, k(b, nil)), nil] done, 3 steps"},
		{"eq(V1, f(V5, V3)), eq(V2, V3)", 9, "[f(V1, V2), V2, V2, V3, V1] done, 2 steps"},
		{"up(V1)", 7, "steps, 7 steps"},
		{"up(a)", 11, "steps, 11 steps"},
		{"up(a)", 400, "great, 12 steps"}, // of 4095 parts
		{"eq(V1, V2), up(V1), p(V1)", 9, "steps, 9 steps"},
	} {
		for _, every := range []int{0, 1, 2, 3, 4, 5, 399, 400} {
			r, n, e := top.Run(program(family), query(c.q), c.steps, every)
			if told(r) != c.want || e != api.OK {
				t.Errorf("H1: %s, every %d: %s, error %d, and must be %s", c.q, every, told(r), e, c.want)
			}
			if n < 0 || n > 0 && (every == 0 || every > r.Steps) {
				t.Errorf("H1: %s, every %d: %d cells went by %d steps", c.q, every, n, r.Steps)
			}
		}
	}
}

// byHand: how many cells go, if a machine is stepped and collected call by call.
func byHand(p api.Program, q []api.Term, steps, every int) int {
	m, _ := machine.Start(p, q)
	all := 0
	for i := 1; i <= steps && m.End == 0; i++ {
		m, _ = machine.Step(p, m)
		if i%every == 0 {
			x, n, _ := collect.Collect(p, m)
			m = x
			all += n
		}
	}
	return all
}

// TestCollected: it is collected each time that so many steps were done.
func TestCollected(t *testing.T) {
	for _, q := range []string{"n(V1)", "p(V1), q(V2), p(V3), fail", "app(V1, V2, k(a, k(b, k(c, nil))))", "on(f(a))", "p(V1)", "p", "true"} {
		for _, steps := range []int{0, 1, 2, 9, 40, 399, 400} {
			for _, every := range []int{1, 2, 3, 7, 199, 200, 400} {
				want := byHand(program(family), query(q), steps, every)
				if _, n, e := top.Run(program(family), query(q), steps, every); n != want || e != api.OK {
					t.Errorf("H1: %s, %d steps, every %d: %d cells went, error %d, and must be %d", q, steps, every, n, e, want)
				}
			}
		}
	}
	for _, every := range []int{1, 200, 400} {
		if _, n, _ := top.Run(program(family), query("on(a)"), 400, every); n == 0 {
			t.Errorf("H1: every %d: nothing is collected", every)
		}
	}
}

func TestRunErrors(t *testing.T) {
	wrong := []api.Term{{Name: "A"}}
	for _, c := range []struct {
		about        string
		p            api.Program
		q            []api.Term
		steps, every int
		want         api.Errno
	}{
		{"too many clauses", make(api.Program, 31), nil, 9, 1, api.ErrMany},
		{"a head that means something", api.Program{{Head: api.Term{Name: "!"}}}, nil, 9, 1, api.ErrState},
		{"the clauses ahead of the query", api.Program{{Head: api.Term{Name: "!"}}}, wrong, 9, 1, api.ErrState},
		{"too many goals", nil, make([]api.Term, 7), 9, 1, api.ErrMany},
		{"the query ahead of steps", nil, wrong, -1, 1, api.ErrForm},
		{"the query ahead of every", nil, wrong, 9, -1, api.ErrForm},
		{"the query, and all else", program("p"), wrong, 9, 1, api.ErrForm},
		{"the query, never collected", program("p"), wrong, 9, 0, api.ErrForm},
		{"the query ahead of steps, never collected", program("p"), wrong, 401, 0, api.ErrForm},
		{"steps below 0", nil, nil, -1, 1, api.ErrRange},
		{"steps below 0, never collected", nil, nil, -1, 0, api.ErrRange},
		{"too many steps", nil, nil, api.MaxSteps + 1, 1, api.ErrRange},
		{"too many steps, never collected", nil, nil, api.MaxSteps + 1, 0, api.ErrRange},
		{"every below 0", nil, nil, 9, -1, api.ErrRange},
		{"every too great", nil, nil, 9, api.MaxSteps + 1, api.ErrRange},
		{"every far too great", nil, nil, 0, math.MaxInt, api.ErrRange},
		{"every far below 0", nil, nil, 400, math.MinInt, api.ErrRange},
		{"both", nil, nil, -1, -1, api.ErrRange},
	} {
		r, n, e := top.Run(c.p, c.q, c.steps, c.every)
		if e != c.want || n != 0 || !reflect.DeepEqual(r, api.Result{}) {
			t.Errorf("H1: %s: error %d, and must be %d alone: %v, %d", c.about, e, c.want, r, n)
		}
	}
}

func TestAsk(t *testing.T) {
	for _, c := range []struct {
		about, p, q string
		steps       int
		want        string
	}{
		{"the document's example", "p(a); p(V1) :- eq(V1, b)", "p(V1)", 9, "V1 = a\nV1 = b\ndone\n"},
		{"no variables", "p; p", "p", 9, "yes\nyes\ndone\n"},
		{"nothing is asked", "", "true", 0, "yes\ndone\n"},
		{"no answers", "", "p", 9, "done\n"},
		{"no steps", "p", "p", 0, "steps\n"},
		{"some steps", family, "n(V1)", 2, "V1 = z\nV1 = s(z)\nsteps\n"},
		{"great", family, "eq(V1, f(a, a, a, a)), eq(V2, f(V1, V1, V1, V1)), eq(V3, f(V2, V2, V2, V2)), eq(V4, f(V3, V3, V3, V3))", 9, "great\n"},
		{"great, and what was found", "p(a); p(V1) :- eq(V2, f(a, a, a, a)), eq(V3, f(V2, V2, V2, V2)), eq(V4, f(V3, V3, V3, V3)), eq(V1, f(V4, V4, V4))", "p(V1)", 9, "V1 = a\ngreat\n"},
		{"wrong", "", "V1", 9, "wrong\n"},
		{"wrong, and what was found", "p(a); p(V1) :- V1", "p(V1)", 9, "V1 = a\nwrong\n"},
		{"some variables", family, "p(V1), q(V2), !", 9, "V1 = a; V2 = b\ndone\n"},
		{"variables that do not stand in the query", family, "one(V3)", 9, "V1 = V1; V2 = V2; V3 = a\ndone\n"},
		{"variables are numbered anew", "", "eq(V1, f(V5, V3)), eq(V2, V3)", 9, "V1 = f(V1, V2); V2 = V2; V3 = V2; V4 = V3; V5 = V1\ndone\n"},
		{"as many variables as may be", "", "eq(V12, a_1)", 9, "V1 = V1; V2 = V2; V3 = V3; V4 = V4; V5 = V5; V6 = V6; V7 = V7; V8 = V8; V9 = V9; V10 = V10; V11 = V11; V12 = a_1\ndone\n"},
		{"names that mean something", "", "eq(V1, f(!, true, fail, eq(eq, true(a))))", 9, "V1 = f(!, true, fail, eq(eq, true(a)))\ndone\n"},
	} {
		for _, every := range []int{0, 1, 2, 400} {
			if s, e := top.Ask(lined(c.p), c.q, c.steps, every); s != c.want || e != api.OK {
				t.Errorf("H2: %s, every %d: %q, error %d, and must be %q", c.about, every, s, e, c.want)
			}
		}
	}
}

// TestGreatAnswers: as many parts as an answer may have, and more variables than a text could have.
func TestGreatAnswers(t *testing.T) {
	// A list of 49 names k, with three variables each, and z: 197 parts.
	p := lined("three(V1, V2) :- eq(V1, k(V3, V4, V5, k(V6, V7, V8, k(V9, V10, V11, V2)))); nine(V1, V2) :- three(V1, V3), three(V3, V4), three(V4, V2); " +
		"all(V1) :- nine(V1, V2), nine(V2, V3), nine(V3, V4), nine(V4, V5), nine(V5, V6), rest(V6); rest(V1) :- three(V1, k(V2, V3, V4, z))")
	want := "V1 = "
	for i := range 49 {
		want += fmt.Sprintf("k(V%d, V%d, V%d, ", 3*i+1, 3*i+2, 3*i+3)
	}
	want += "z" + strings.Repeat(")", 49) + "; V2 = V148; V3 = V149; V4 = V150\ndone\n"
	for _, every := range []int{0, 1, 7} {
		if s, e := top.Ask(p, "all(V1), eq(V4, V3), eq(V3, a)", 400, every); !strings.HasSuffix(s, "; V2 = V148; V3 = a; V4 = a\ndone\n") || e != api.OK {
			t.Errorf("H2: every %d: error %d, %s", every, e, s)
		}
		if s, e := top.Ask(p, "all(V1), eq(V4, V4)", 400, every); s != want || e != api.OK {
			t.Errorf("H2: every %d: error %d, it is\n%s\nand must be\n%s", every, e, s, want)
		}
		if s, e := top.Ask(p, "all(V1), eq(V5, V5)", 400, every); s != "great\n" || e != api.OK {
			t.Errorf("H2: every %d: error %d, %s", every, e, s)
		}
	}
}

func TestAskWrongTexts(t *testing.T) {
	long := strings.Repeat("a", 6001)
	clauses := strings.Repeat("p.\n", 31)
	for _, c := range []struct{ about, p, q, want string }{
		{"no program", "a", "b", "program 1\n"},
		{"nothing of a program, but a byte", "\x00", "b", "program 0\n"},
		{"a line that does not end", "a.\nb :- c, d", "b", "program 12\n"},
		{"a third line", "a.\nb.\nc(V01).\n", "b", "program 9\n"},
		{"too long a program", long, "a", "program 0\n"},
		{"too many clauses", clauses, "a", "program 0\n"},
		{"a head that is a variable", "a.\nV1.\n", "a", "program 0\n"},
		{"a head that means something", "a.\ntrue.\n", "a", "program 0\n"},
		{"the program ahead of the query", "a", "", "program 1\n"},
		{"no query", "", "", "query 0\n"},
		{"a query that ends too early", "a.\n", "b(", "query 2\n"},
		{"a query that does not end", "a.\n", "b, c.\n", "query 4\n"},
		{"too long a query", "a.\n", long, "query 0\n"},
		{"a variable out of range", "a.\n", "b(c), V13", "query 0\n"},
		{"too many goals", "a.\n", "a, a, a, a, a, a, a", "query 0\n"},
		{"a query of a place with many digits", "", strings.Repeat("a, ", 1000) + "A", "query 3000\n"},
	} {
		for _, every := range []int{0, 1} {
			if s, e := top.Ask(c.p, c.q, 9, every); s != c.want || e != api.OK {
				t.Errorf("H2: %s: %q, error %d, and must be %q", c.about, s, e, c.want)
			}
		}
		for _, x := range [][2]int{{-1, 0}, {401, 1}, {9, -1}, {9, 401}, {math.MinInt, math.MaxInt}} {
			if s, e := top.Ask(c.p, c.q, x[0], x[1]); s != "" || e != api.ErrRange {
				t.Errorf("H2: %s: %v: %q, error %d, and the range comes first", c.about, x, s, e)
			}
		}
	}
	for _, x := range [][2]int{{-1, 0}, {401, 0}, {0, -1}, {0, 401}} {
		if s, e := top.Ask("a.\n", "a", x[0], x[1]); s != "" || e != api.ErrRange {
			t.Errorf("H2: %v: %q, error %d", x, s, e)
		}
	}
	for _, x := range [][2]int{{0, 0}, {400, 400}} {
		if s, e := top.Ask("a.\n", "true", x[0], x[1]); s != "yes\ndone\n" || e != api.OK {
			t.Errorf("H2: %v: %q, error %d", x, s, e)
		}
	}
}

// lists: all lists of arguments in terms, these first.
func lists(terms []api.Term) [][]api.Term {
	out := [][]api.Term{terms}
	for _, t := range terms {
		out = append(out, lists(t.Args)...)
	}
	return out
}

func TestOwnMemory(t *testing.T) {
	for _, every := range []int{0, 1, 3} {
		p, q := program(family), query("app(V1, V2, k(f(a, b), k(f(a, b), nil))), eq(V3, V2)")
		q = slices.Grow(q, 9)
		before := fmt.Sprint(p, q[:9])
		r, _, e := top.Run(p, q, 40, every)
		if e != api.OK || fmt.Sprint(p, q[:9]) != before {
			t.Fatalf("P2: every %d: what was handed in has changed, error %d", every, e)
		}
		want := fmt.Sprint(r)
		for _, l := range lists(q) {
			clear(l[:cap(l)])
		}
		for i, c := range p {
			for _, l := range slices.Concat(lists(c.Head.Args), lists(c.Body)) {
				clear(l[:cap(l)])
			}
			p[i] = api.Clause{}
		}
		if fmt.Sprint(r) != want {
			t.Errorf("P2: every %d: a later change of what was handed in is seen", every)
		}
		var all [][]api.Term
		for _, a := range r.Answers {
			all = append(all, lists(a)...)
		}
		parts := 0
		for _, l := range all {
			for i := range l[:cap(l)] {
				l[:cap(l)][i].Var++
			}
			parts += len(l)
		}
		once := 0
		for _, l := range all {
			for _, x := range l {
				if x.Name != "" && x.Var == 1 || x.Name == "" && x.Var > 1 {
					once++
				}
			}
		}
		if parts == 0 || once != parts {
			t.Errorf("P2: every %d: lists of an answer share memory: %d of %d parts", every, once, parts)
		}
	}
}
