package unify_test

import (
	"palisade/api"
)

// Making two terms the same by the plainest means: whatever a variable becomes is written into all that is still to be looked at. No variable is looked up, and none is gone back to.

// pair of terms to be looked at.
type pair struct{ s, t api.Term }

// replaced: a term with another one in place of a variable.
func replaced(t api.Term, n int, by api.Term) api.Term {
	if t.Var == n {
		return by
	}
	c := api.Term{Var: t.Var, Name: t.Name}
	for _, a := range t.Args {
		c.Args = append(c.Args, replaced(a, n, by))
	}
	return c
}

// flat: all parts of a term, each ahead of its arguments, from the left.
func flat(t api.Term) []api.Term {
	l := []api.Term{t}
	for _, a := range t.Args {
		l = append(l, flat(a)...)
	}
	return l
}

// seek a variable in a term: how many parts are looked at, and is it there?
func seek(t api.Term, n int) (int, bool) {
	l := flat(t)
	for i, p := range l {
		if p.Var == n {
			return i + 1, true
		}
	}
	return len(l), false
}

// replacing: what Unify must answer of terms that are right.
func replacing(s, t api.Term) ([]api.Term, bool, int, api.Errno) {
	var is []api.Term
	for n := range api.MaxVar {
		is = append(is, api.Term{Var: n + 1})
	}
	work := 0
	todo := []pair{{s, t}}
	for len(todo) > 0 && work <= api.MaxWork {
		p := todo[0]
		todo = todo[1:]
		work++
		if p.s.Var == 0 && p.t.Var != 0 {
			p.s, p.t = p.t, p.s
		}
		switch {
		case p.s.Var != 0 && p.s.Var == p.t.Var:
		case p.s.Var != 0:
			n, there := seek(p.t, p.s.Var)
			work += n
			if there && work <= api.MaxWork {
				return nil, false, work, api.OK
			}
			for i, x := range is {
				is[i] = replaced(x, p.s.Var, p.t)
			}
			for i, x := range todo {
				todo[i] = pair{replaced(x.s, p.s.Var, p.t), replaced(x.t, p.s.Var, p.t)}
			}
		case p.s.Name != p.t.Name || len(p.s.Args) != len(p.t.Args):
			return nil, false, work, api.OK
		default:
			var first []pair
			for i := range p.s.Args {
				first = append(first, pair{p.s.Args[i], p.t.Args[i]})
			}
			todo = append(first, todo...)
		}
	}
	if work > api.MaxWork {
		return nil, false, 0, api.ErrMany
	}
	for _, t := range is {
		if len(flat(t)) > api.MaxShow {
			return nil, false, 0, api.ErrMany
		}
	}
	return leastFirst(is), true, work, api.OK
}

// leastFirst: of variables that are the same the least one is told.
func leastFirst(is []api.Term) []api.Term {
	for n := len(is); n > 0; n-- { // the least number comes last, and stays
		r := is[n-1].Var
		if r == 0 || r == n {
			continue
		}
		if r > n {
			for i, x := range is {
				is[i] = swapped(x, r, n)
			}
		}
	}
	return is
}

// swapped: a term with one variable for another.
func swapped(t api.Term, from, to int) api.Term {
	return replaced(t, from, api.Term{Var: to})
}
