package top_test

import (
	"fmt"
	"math/rand"
	"slices"
	"strings"
	"testing"

	"palisade/api"
	"palisade/solve"
	"palisade/text"
	"palisade/top"
)

// dice draw programs and queries.
type dice struct{ *rand.Rand }

// of: one of some texts.
func (d dice) of(l ...string) string { return l[d.Intn(len(l))] }

// variable of the first ones.
func (d dice) variable() string { return d.of("V1", "V1", "V2", "V3", "V4") }

// term of at most that depth.
func (d dice) term(depth int) string {
	if n := d.Intn(8); n < 3 {
		return d.variable()
	} else if n < 5 || depth == 0 {
		return d.of("a", "b", "true", "!", "fail")
	}
	t := d.term(depth - 1)
	return d.of("s("+t+")", "h("+t+", "+d.term(0)+")", "h("+t+", "+t+")")
}

// head of a clause, or a goal that calls one.
func (d dice) head() string {
	switch d.Intn(5) {
	case 0:
		return d.of("r", "q("+d.term(1)+", "+d.term(1)+")")
	case 1:
		return "k(" + d.term(1) + ", " + d.term(2) + ")"
	}
	return d.of("p", "s", "t") + "(" + d.term(2) + ")"
}

// goals: at most so many.
func (d dice) goals(most int) string {
	var l []string
	for range 1 + d.Intn(most) {
		l = append(l, d.of(d.head(), d.head(), d.head(), d.head(), "eq("+d.term(2)+", "+d.term(2)+")", "!", d.of("true", "fail", d.variable())))
	}
	return strings.Join(l, ", ")
}

// program of clauses with at most three goals.
func (d dice) program() string {
	var l []string
	if d.Intn(4) == 0 { // so that something grows
		l = append(l, "k(V1, h(V1, V1))", "t(V1) :- k(V1, V2), t(V2)")
	}
	for range 3 + d.Intn(16) {
		l = append(l, d.of(d.head(), d.head()+" :- "+d.goals(3)))
	}
	return lined(strings.Join(l, "; "))
}

// asked: the lines of a result.
func asked(r api.Result) string {
	var lines []string
	for _, a := range r.Answers {
		var l []string
		for i, t := range a {
			l = append(l, fmt.Sprintf("V%d = %s", i+1, show([]api.Term{t})))
		}
		if len(l) == 0 {
			l = []string{"yes"}
		}
		lines = append(lines, strings.Join(l, "; "))
	}
	return strings.Join(append(lines, word(r.End), ""), "\n")
}

// TestHeldAgainstSolve: H1 to H3 on programs that are drawn: how often it is collected changes no answer, and each is that of chapter 4.
func TestHeldAgainstSolve(t *testing.T) {
	d := dice{rand.New(rand.NewSource(31))}
	ends, found, gone := map[int]int{}, 0, 0
	for range 800 {
		s, g := d.program(), d.goals(4)
		p, _, _ := text.Parse(s)
		q := query(g)
		for _, steps := range []int{0, 1, 2, 5, 13, 40, 150} {
			want, _ := solve.Solve(p, q, steps)
			for _, every := range []int{0, 1, 1 + d.Intn(9), 1 + d.Intn(api.MaxSteps)} {
				r, n, e := top.Run(p, q, steps, every)
				if e != api.OK || fmt.Sprint(r) != fmt.Sprint(want) {
					t.Fatalf("H3: %s%s, every %d: %s, error %d, and must be %s", s, g, every, told(r), e, told(want))
				}
				gone += n
				if text, e := top.Ask(s, g, steps, every); text != asked(want) || e != api.OK {
					t.Fatalf("H2: %s%s, every %d: %q, error %d, and must be %q", s, g, every, text, e, asked(want))
				}
			}
			if steps == 150 {
				ends[want.End]++
				found += len(want.Answers)
			}
		}
	}
	if ends[api.EndDone] < 150 || ends[api.EndSteps] < 20 || ends[api.EndGreat] < 10 || ends[api.EndWrong] < 50 || found < 250 || gone < 20000 {
		t.Errorf("what was drawn is too much alike: %v, %d answers, %d cells", ends, found, gone)
	}
}

// TestMoreSteps: with more steps all that was found is found, however often it is collected.
func TestMoreSteps(t *testing.T) {
	d := dice{rand.New(rand.NewSource(32))}
	for range 300 {
		s, g := d.program(), d.goals(4)
		p, _, _ := text.Parse(s)
		var last []string
		for steps := range 40 {
			r, _, e := top.Run(p, query(g), steps, d.Intn(5))
			var found []string
			for _, a := range r.Answers {
				found = append(found, show(a))
			}
			if e != api.OK || len(found) < len(last) || !slices.Equal(found[:len(last)], last) {
				t.Fatalf("D4, H3: %s%s, %d steps: %v, error %d, and it was %v", s, g, steps, found, e, last)
			}
			last = found
		}
	}
}
