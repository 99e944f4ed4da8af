// Package bind: what variables are, and making two terms the same: the common ground of unify and solve, whose terms may be greater, and have more variables, than a call lets in.
package bind

import "palisade/api"

// Vars: what variables are, which of them became something, in that order, and how much work is left.
type Vars struct {
	is    map[int]api.Term
	trail []int
	left  int
}

// New: no variable is anything yet.
func New() *Vars {
	return &Vars{is: map[int]api.Term{}, left: api.MaxWork}
}

// Renew: from now on MaxWork may be done.
func (v *Vars) Renew() {
	v.left = api.MaxWork
}

// Work that was done since then.
func (v *Vars) Work() int {
	return api.MaxWork - v.left
}

// Over: would it be more than MaxWork?
func (v *Vars) Over() bool {
	return v.left < 0
}

// Mark of what all variables are now.
func (v *Vars) Mark() int {
	return len(v.trail)
}

// Back to a mark.
func (v *Vars) Back(mark int) {
	for _, n := range v.trail[mark:] {
		delete(v.is, n)
	}
	v.trail = v.trail[:mark]
}

// What a term is: itself, if it is no variable that is something.
func (v *Vars) What(t api.Term) api.Term {
	for t.Var != 0 {
		is, ok := v.is[t.Var]
		if !ok {
			break
		}
		t = is
	}
	return t
}

// Same: two terms are made the same; false, if that can't be, or if the work is over.
// What was bound till then stays: who goes on goes back to a mark.
func (v *Vars) Same(s, t api.Term) bool {
	s, t = v.What(s), v.What(t)
	switch {
	case !v.look():
		return false
	case s.Var != 0 && s.Var == t.Var:
		return true
	case s.Var != 0:
		return v.bind(s, t)
	case t.Var != 0:
		return v.bind(t, s)
	case s.Name != t.Name || len(s.Args) != len(t.Args):
		return false
	}
	for i := range s.Args {
		if !v.Same(s.Args[i], t.Args[i]) {
			return false
		}
	}
	return true
}

// look at a pair, or at a part: may it be done?
func (v *Vars) look() bool {
	v.left--
	return v.left >= 0
}

// bind a variable to what it does not stand in.
func (v *Vars) bind(x, t api.Term) bool {
	if !v.lacks(t, x.Var) {
		return false
	}
	// Of two variables the greater one is bound, whichever was the first: the work is the same, and the least of those that are the same is left.
	if t.Var > x.Var {
		x, t = t, x
	}
	v.is[x.Var] = t
	v.trail = append(v.trail, x.Var)
	return true
}

// lacks: does a variable not stand in a term? False, too, if the work is over.
func (v *Vars) lacks(t api.Term, n int) bool {
	t = v.What(t)
	if !v.look() || t.Var == n {
		return false
	}
	for _, a := range t.Args {
		if !v.lacks(a, n) {
			return false
		}
	}
	return true
}

// Room: how much of n is left behind all parts of terms, as they are; below 0, if there are more than n.
// It counts no further than that, because few variables can be terms of very many parts.
func (v *Vars) Room(n int, terms ...api.Term) int {
	for _, t := range terms {
		if n == 0 {
			return -1
		}
		n = v.Room(n-1, v.What(t).Args...)
		if n < 0 {
			return n
		}
	}
	return n
}

// Whole: a term with all that its variables are, through and through; those that are nothing have the number that a function tells.
func (v *Vars) Whole(t api.Term, number func(n int) int) api.Term {
	return Each(t, func(n int) api.Term {
		if is, ok := v.is[n]; ok {
			return v.Whole(is, number)
		}
		return api.Term{Var: number(n)}
	})
}

// Each variable of a term is what a function tells: a new term.
func Each(t api.Term, tell func(n int) api.Term) api.Term {
	if t.Var != 0 {
		return tell(t.Var)
	}
	c := api.Term{Name: t.Name}
	for _, a := range t.Args {
		c.Args = append(c.Args, Each(a, tell))
	}
	return c
}
