package machine_test

import (
	"fmt"
	"math/rand"
	"slices"
	"strings"
	"testing"

	"palisade/api"
	"palisade/machine"
	"palisade/solve"
)

// dice draw programs, queries, and what is changed in machines.
type dice struct{ *rand.Rand }

// of: one of some texts.
func (d dice) of(l ...string) string { return l[d.Intn(len(l))] }

// variable of the first ones.
func (d dice) variable() string { return d.of("V1", "V1", "V2", "V3", "V4") }

// term of at most that depth.
func (d dice) term(depth int) string {
	if n := d.Intn(8); n < 3 {
		return d.variable()
	} else if n < 5 || depth == 0 {
		return d.of("a", "b", "true", "!", "fail")
	} else if n < 6 {
		return d.of("s", "p") + "(" + d.term(depth-1) + ")"
	}
	t := d.term(depth - 1)
	return "h(" + t + ", " + d.of(t, d.term(0)) + ")"
}

// head of a clause, or a goal that calls one.
func (d dice) head() string {
	switch d.Intn(5) {
	case 0:
		return d.of("r", "q("+d.term(1)+", "+d.term(1)+")")
	case 1:
		return "k(" + d.term(1) + ", " + d.term(2) + ")"
	}
	return d.of("p", "s", "t") + "(" + d.term(2) + ")"
}

// goals: at most so many.
func (d dice) goals(most int) string {
	var l []string
	for range 1 + d.Intn(most) {
		l = append(l, d.of(d.head(), d.head(), d.head(), d.head(), "eq("+d.term(2)+", "+d.term(2)+")", "!", d.of("true", "fail", d.variable())))
	}
	return strings.Join(l, ", ")
}

// program of clauses with at most three goals.
func (d dice) program() api.Program {
	var l []string
	if d.Intn(4) == 0 { // so that something grows
		l = append(l, "k(V1, h(V1, V1))", "t(V1) :- k(V1, V2), t(V2)")
	}
	for range 3 + d.Intn(16) {
		l = append(l, d.of(d.head(), d.head()+" :- "+d.goals(3)))
	}
	return program(strings.Join(l, "; "))
}

// TestRunHeldAgainstSolve: F3 on programs that are drawn; and each step of a machine finds what Solve finds by so many steps.
func TestRunHeldAgainstSolve(t *testing.T) {
	d := dice{rand.New(rand.NewSource(11))}
	ends, found := map[int]int{}, 0
	for range 1500 {
		p, q := d.program(), query(d.goals(4))
		for _, steps := range []int{0, 1, 2, 3, 5, 8, 13, 40, 150, api.MaxSteps} {
			want, _ := solve.Solve(p, q, steps)
			r, e := machine.Run(p, q, steps)
			if e != api.OK || fmt.Sprint(r) != fmt.Sprint(want) {
				t.Fatalf("F3: %v, %v: %s, error %d, and must be %s", p, q, told(r.Answers, r.End, r.Steps), e, told(want.Answers, want.End, want.Steps))
			}
			if steps == api.MaxSteps {
				ends[r.End]++
				found += len(r.Answers)
			}
		}
		m := started(t, p, q)
		for range 20 {
			m = stepped(t, p, m, 1)
			want, _ := solve.Solve(p, q, m.Steps)
			if m.End == 0 {
				m.End = api.EndSteps
			}
			if got, want := told(m.Answers, m.End, m.Steps), told(want.Answers, want.End, want.Steps); got != want {
				t.Fatalf("F2: %v, %v: %s, and must be %s", p, q, got, want)
			}
			if m.End == api.EndSteps {
				m.End = 0
			}
		}
	}
	if ends[api.EndDone] < 300 || ends[api.EndSteps] < 50 || ends[api.EndGreat] < 20 || ends[api.EndWrong] < 50 || found < 500 {
		t.Errorf("what was drawn is too much alike: %v, %d answers", ends, found)
	}
}

// near: a number a little off, or anywhere to one behind the last.
func (d dice) near(n, last int) int {
	if d.Intn(2) == 0 {
		return n + d.Intn(5) - 2
	}
	return d.Intn(last+3) - 1
}

// at: a place in a list, if there is one.
func (d dice) at(n int) (int, bool) {
	if n == 0 {
		return 0, false
	}
	return d.Intn(n), true
}

// change one thing of a machine.
func (d dice) change(m *api.Machine, clauses int) {
	switch d.Intn(8) {
	case 0:
		m.First = d.near(m.First, len(m.Goals))
	case 1:
		if i, ok := d.at(len(m.Goals)); ok {
			g := &m.Goals[i]
			*[]*int{&g.At, &g.Cut, &g.Next}[d.Intn(3)] = d.near(i, []int{len(m.Heap), len(m.Choices), i}[d.Intn(3)])
		}
	case 2, 3:
		if i, ok := d.at(len(m.Choices)); ok {
			c := &m.Choices[i]
			of := []*int{&c.Goal, &c.Clause, &c.Heap, &c.Trail, &c.Goals}[d.Intn(5)]
			*of = d.near(*of, len(m.Heap))
		}
	case 4:
		m.Trail = slices.Insert(m.Trail, d.Intn(len(m.Trail)+1), d.Intn(len(m.Heap)+1))
	case 5:
		if i, ok := d.at(len(m.Trail)); ok {
			m.Trail = slices.Delete(m.Trail, i, i+1)
		}
	case 6:
		if i, ok := d.at(len(m.Query)); ok {
			m.Query[i] = d.near(m.Query[i], len(m.Heap))
		}
	case 7:
		if i, ok := d.at(len(m.Heap)); ok && m.Heap[i].Kind == api.CellRef {
			m.Heap[i].N = d.near(m.Heap[i].N, len(m.Heap))
		}
	}
	if len(m.Goals) > 0 && d.Intn(4) == 0 { // a choice that nobody made
		m.Choices = append(m.Choices, api.Choice{Goal: 1 + d.Intn(len(m.Goals)), Clause: d.Intn(clauses + 1), Heap: len(m.Heap), Trail: len(m.Trail), Goals: len(m.Goals)})
	}
}

// TestStepHeldAgainstSnapshots: F1, F2 on machines in which things were changed: Check answers what the document says word by word, and each step from there is that of whole heaps.
func TestStepHeldAgainstSnapshots(t *testing.T) {
	d := dice{rand.New(rand.NewSource(12))}
	seen := map[api.Errno]int{}
	found, ends := 0, map[int]int{}
	for range 12000 {
		p := d.program()
		m := stepped(t, p, started(t, p, query(d.goals(4))), d.Intn(12))
		m.End = 0
		for range d.Intn(6) {
			d.change(&m, len(p))
		}
		e := machine.Check(p, m)
		if want := plainCheck(m, len(p)); e != want {
			t.Fatalf("F1: %v: error %d, and must be %d", m, e, want)
		}
		seen[e]++
		if e != api.OK {
			continue
		}
		x := plainly(p, m)
		before := len(m.Answers)
		for range 12 {
			m = stepped(t, p, m, 1)
			x.step()
			if got, want := told(m.Answers, m.End, m.Steps), told(x.Answers, x.End, x.Steps); got != want {
				t.Fatalf("F2: %v, %v: %s, and must be %s", p, m, got, want)
			}
		}
		found += len(m.Answers) - before
		ends[m.End]++
	}
	if seen[api.OK] < 3000 || seen[api.ErrState] < 3000 || seen[api.ErrNone] < 300 || found < 3000 || ends[0] < 300 || ends[api.EndDone] < 300 || ends[api.EndWrong] < 300 {
		t.Errorf("what was drawn is too much alike: errors %v, ends %v, %d answers", seen, ends, found)
	}
}
