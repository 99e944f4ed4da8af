package solve_test

import (
	"fmt"
	"maps"

	"palisade/api"
)

// Searching by plain recursion: a call of a clause is a call of a function, going back is a return, a cut unwinds all calls down to the one that is cut. What variables are is copied whenever one becomes something, so nothing is ever taken back.

// bound: what variables are.
type bound map[int]api.Term

// called: a goal, and the number of the call whose clause it stands in (0: the query's own).
type called struct {
	term api.Term
	call int
}

// uncut: what a search answers that was not cut.
const uncut = 1 << 30

// unwinder: what is known of a search while it goes on.
type unwinder struct {
	p     api.Program
	limit int
	asked int
	calls int
	work  int
	api.Result
}

// unwinding: what Solve must answer of what is right.
func unwinding(p api.Program, q []api.Term, steps int) api.Result {
	u := &unwinder{p: p, limit: steps}
	var goals []called
	for _, t := range q {
		goals = append(goals, called{term: t})
		u.asked = max(u.asked, greatest(t))
	}
	u.search(goals, bound{})
	if u.End == 0 {
		u.End = api.EndDone
	}
	return u.Result
}

// greatest variable of a term.
func greatest(t api.Term) int {
	n := t.Var
	for _, a := range t.Args {
		n = max(n, greatest(a))
	}
	return n
}

// search: all that is found of goals: which call is cut (uncut: none).
func (u *unwinder) search(goals []called, b bound) int {
	if len(goals) == 0 {
		u.answer(b)
		return uncut
	}
	if u.Steps == u.limit {
		u.End = api.EndSteps
		return uncut
	}
	u.Steps++
	u.work = 0
	t, rest := b.of(goals[0].term), goals[1:]
	if t.Var != 0 {
		u.End = api.EndWrong
		return uncut
	}
	switch fmt.Sprint(t.Name, "/", len(t.Args)) {
	case "!/0":
		return min(goals[0].call, u.search(rest, b))
	case "true/0":
		return u.search(rest, b)
	case "fail/0":
		return uncut
	case "eq/2":
		if c, ok := u.same(b, t.Args[0], t.Args[1]); ok {
			return u.search(rest, c)
		}
		return uncut
	}
	return u.call(t, rest, b)
}

// call clauses, one behind the other.
func (u *unwinder) call(t api.Term, rest []called, b bound) int {
	for _, c := range u.p {
		if c.Head.Name != t.Name || len(c.Head.Args) != len(t.Args) {
			continue
		}
		u.calls++
		me := u.calls
		d, ok := u.same(b, fresh(c.Head, me), t)
		if u.End != 0 {
			return uncut
		}
		if !ok {
			continue
		}
		var goals []called
		for _, x := range c.Body {
			goals = append(goals, called{fresh(x, me), me})
		}
		cut := u.search(append(goals, rest...), d)
		if u.End != 0 || cut == me {
			return uncut
		}
		if cut != uncut {
			return cut
		}
		u.work = 0
	}
	return uncut
}

// fresh: a term with variables that no other call has.
func fresh(t api.Term, call int) api.Term {
	c := api.Term{Name: t.Name}
	if t.Var != 0 {
		c.Var = 100*call + t.Var
	}
	for _, a := range t.Args {
		c.Args = append(c.Args, fresh(a, call))
	}
	return c
}

// of: what a term is.
func (b bound) of(t api.Term) api.Term {
	if is, ok := b[t.Var]; ok && t.Var != 0 {
		return b.of(is)
	}
	return t
}

// look: one piece of work; false, if it is the end.
func (u *unwinder) look() bool {
	u.work++
	if u.work > api.MaxWork {
		u.End = api.EndGreat
	}
	return u.End == 0
}

// same: what variables are when two terms were made the same.
func (u *unwinder) same(b bound, s, t api.Term) (bound, bool) {
	s, t = b.of(s), b.of(t)
	if !u.look() {
		return nil, false
	}
	if s.Var == 0 && t.Var != 0 {
		s, t = t, s
	}
	if s.Var != 0 {
		if s.Var == t.Var {
			return b, true
		}
		if u.stands(b, s.Var, t) {
			return nil, false
		}
		b = maps.Clone(b)
		b[s.Var] = t
		return b, true
	}
	ok := s.Name == t.Name && len(s.Args) == len(t.Args)
	for i := 0; ok && i < len(s.Args); i++ {
		b, ok = u.same(b, s.Args[i], t.Args[i])
	}
	return b, ok
}

// stands: is a variable found in a term (or is it the end)?
func (u *unwinder) stands(b bound, n int, t api.Term) bool {
	t = b.of(t)
	if !u.look() || t.Var == n {
		return true
	}
	for _, a := range t.Args {
		if u.stands(b, n, a) {
			return true
		}
	}
	return false
}

// answer of what variables are.
func (u *unwinder) answer(b bound) {
	var a api.Answer
	parts, names := 0, []int{}
	for n := range u.asked {
		a = append(a, b.told(api.Term{Var: n + 1}, &parts, &names))
	}
	if parts > api.MaxShow {
		u.End = api.EndGreat
		return
	}
	u.Answers = append(u.Answers, a)
	if len(u.Answers) == api.MaxAnswers {
		u.End = api.EndDone
	}
}

// told: a term as it is told in an answer (a piece of it, once there are too many parts).
func (b bound) told(t api.Term, parts *int, names *[]int) api.Term {
	t = b.of(t)
	*parts++
	if t.Var != 0 {
		for i, n := range *names {
			if n == t.Var {
				return api.Term{Var: i + 1}
			}
		}
		*names = append(*names, t.Var)
		return api.Term{Var: len(*names)}
	}
	c := api.Term{Name: t.Name}
	for _, x := range t.Args {
		if *parts <= api.MaxShow {
			c.Args = append(c.Args, b.told(x, parts, names))
		}
	}
	return c
}
