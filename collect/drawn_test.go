package collect_test

import (
	"fmt"
	"math/rand"
	"slices"
	"strings"
	"testing"

	"palisade/api"
	"palisade/collect"
	"palisade/machine"
)

// dice draw programs, queries, and what is changed in machines.
type dice struct{ *rand.Rand }

// of: one of some texts.
func (d dice) of(l ...string) string { return l[d.Intn(len(l))] }

// term of at most that depth.
func (d dice) term(depth int) string {
	if n := d.Intn(8); n < 3 {
		return d.of("V1", "V1", "V2", "V3", "V4")
	} else if n < 5 || depth == 0 {
		return d.of("a", "b", "true", "!", "fail")
	}
	t := d.term(depth - 1)
	return d.of("s("+t+")", "h("+t+", "+d.term(0)+")", "h("+t+", "+t+")")
}

// head of a clause, or a goal that calls one.
func (d dice) head() string {
	return d.of("r", "q("+d.term(1)+", "+d.term(1)+")", "p("+d.term(2)+")", "s("+d.term(2)+")", "t("+d.term(2)+")")
}

// goals: at most so many.
func (d dice) goals(most int) string {
	var l []string
	for range 1 + d.Intn(most) {
		l = append(l, d.of(d.head(), d.head(), d.head(), d.head(), "eq("+d.term(2)+", "+d.term(2)+")", "!", d.of("true", "fail", "V1")))
	}
	return strings.Join(l, ", ")
}

// program of clauses with at most three goals.
func (d dice) program() api.Program {
	var l []string
	for range 3 + d.Intn(16) {
		l = append(l, d.of(d.head(), d.head()+" :- "+d.goals(3)))
	}
	return program(strings.Join(l, "; "))
}

// change one thing of a machine, so that it may be one still.
func (d dice) change(m *api.Machine, clauses int) {
	cell := func() int { return d.Intn(len(m.Heap) + 1) }
	switch n := len(m.Goals); d.Intn(7) {
	case 0:
		m.First = d.Intn(n + 1)
	case 1:
		m.Goals = append(m.Goals, api.Goal{At: cell(), Cut: d.Intn(4), Next: d.Intn(n + 1)})
	case 2:
		m.Choices = append(m.Choices, api.Choice{Goal: 1 + d.Intn(n+1), Clause: d.Intn(clauses + 1), Heap: len(m.Heap), Trail: len(m.Trail), Goals: n})
	case 3:
		m.Trail = slices.Insert(m.Trail, d.Intn(len(m.Trail)+1), cell())
	case 4:
		m.Query = append(m.Query, cell())
	case 5:
		m.Heap = append(m.Heap, fn("f", 2), ref(cell()), ref(cell()))
	case 6:
		if at := cell(); at < len(m.Heap) && m.Heap[at].Kind == api.CellRef {
			m.Heap[at].N = cell()
		}
	}
}

// plainLive: cells are needed, as long as there is one more.
func plainLive(m api.Machine) []bool {
	l := make([]bool, len(m.Heap))
	for _, at := range m.Query {
		l[at] = true
	}
	for _, g := range m.Goals {
		l[g.At] = true
	}
	for more := true; more; {
		more = false
		for at, c := range m.Heap {
			if !l[at] {
				continue
			}
			to := []int{c.N}
			if c.Kind == api.CellFn {
				to = to[:0]
				for i := range c.N {
					to = append(to, at+i+1)
				}
			}
			for _, n := range to {
				more = more || !l[n]
				l[n] = true
			}
		}
	}
	return l
}

// plainCollect: a machine of cells that stay, as the document says it.
func plainCollect(m api.Machine, live []bool) api.Machine {
	var stay []int
	for at := range m.Heap {
		if live[at] {
			stay = append(stay, at)
		}
	}
	number := func(at int) int { return slices.Index(stay, at) }
	x := m
	x.Heap, x.Goals, x.Choices, x.Trail, x.Query = nil, nil, nil, nil, nil
	for _, at := range stay {
		c := m.Heap[at]
		if c.Kind == api.CellRef {
			c.N = number(c.N)
		}
		x.Heap = append(x.Heap, c)
	}
	for _, g := range m.Goals {
		x.Goals = append(x.Goals, api.Goal{At: number(g.At), Cut: g.Cut, Next: g.Next})
	}
	for _, c := range m.Choices {
		y := c
		y.Heap = 0
		for _, at := range stay {
			if at < c.Heap {
				y.Heap++
			}
		}
		for _, at := range m.Trail[:c.Trail] {
			if !live[at] {
				y.Trail--
			}
		}
		x.Choices = append(x.Choices, y)
	}
	for _, at := range m.Trail {
		if live[at] {
			x.Trail = append(x.Trail, number(at))
		}
	}
	for _, at := range m.Query {
		x.Query = append(x.Query, number(at))
	}
	return x
}

// seen: what was met among the machines that were drawn.
type seen struct {
	errors              map[api.Errno]int
	gone, trails, found int
}

// hold a machine that was drawn against what the document says of it.
func hold(t *testing.T, p api.Program, m api.Machine, s *seen) api.Machine {
	live, e := collect.Live(p, m)
	x, n, f := collect.Collect(p, m)
	if want := machine.Check(p, m); e != want || f != want {
		t.Fatalf("G1, G2: errors %d, %d, and must be %d: %v", e, f, want, m)
	}
	s.errors[e]++
	if e != api.OK {
		return m
	}
	if want := plainLive(m); !slices.Equal(live, want) {
		t.Fatalf("G1: %v: %v, and must be %v", m, live, want)
	}
	want := plainCollect(m, live)
	if fmt.Sprint(x) != fmt.Sprint(want) || n != len(m.Heap)-len(want.Heap) {
		t.Fatalf("G2: %v: it is\n%v, %d went, and must be\n%v", m, x, n, want)
	}
	if e := machine.Check(p, x); e != api.OK {
		t.Fatalf("G3: %v was right, and %v has error %d", m, x, e)
	}
	if y, n, e := collect.Collect(p, x); n != 0 || e != api.OK || fmt.Sprint(y) != fmt.Sprint(x) {
		t.Fatalf("G3: %v goes twice: %v, %d, error %d", x, y, n, e)
	}
	s.gone += n
	s.trails += len(m.Trail) - len(x.Trail)
	return x
}

// TestHeldAgainstPlain: G1 to G3 on machines that are drawn, things changed in them: what is needed, what is collected, and that each step from then on finds the same, collected again or not.
func TestHeldAgainstPlain(t *testing.T) {
	d := dice{rand.New(rand.NewSource(21))}
	s := &seen{errors: map[api.Errno]int{}}
	for range 6000 {
		p := d.program()
		m := started(t, p, query(d.goals(4)), d.Intn(12))
		m.End = 0
		for range d.Intn(5) {
			d.change(&m, len(p))
		}
		x := hold(t, p, m, s)
		if machine.Check(p, m) != api.OK {
			continue
		}
		before := len(m.Answers)
		for range 10 {
			m, x = stepped(t, p, m, 1), stepped(t, p, x, 1)
			if state(m) != state(x) {
				t.Fatalf("G3: %v: collected it finds\n%s, and must find\n%s", p, state(x), state(m))
			}
			if d.Intn(3) == 0 {
				x = hold(t, p, x, s)
			}
		}
		s.found += len(m.Answers) - before
	}
	if s.errors[api.OK] < 8000 || s.errors[api.ErrState] < 500 || s.errors[api.ErrNone] < 300 || s.gone < 20000 || s.trails < 3000 || s.found < 2000 {
		t.Errorf("what was drawn is too much alike: %+v", *s)
	}
}
