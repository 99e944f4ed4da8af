// Package term: terms: see doc/01-term.md.
package term

import "palisade/api"

// Check a term.
func Check(t api.Term) api.Errno {
	if room(api.MaxSize, t) < 0 {
		return api.ErrMany
	}
	return parts(t)
}

// Clauses of a program: are they right?
func Clauses(p api.Program) api.Errno {
	if len(p) > api.MaxClauses {
		return api.ErrMany
	}
	for _, c := range p {
		if e := head(c.Head); e != api.OK {
			return e
		}
		if e := Query(c.Body); e != api.OK {
			return e
		}
	}
	return api.OK
}

// Query: is one right?
func Query(q []api.Term) api.Errno {
	if len(q) > api.MaxBody {
		return api.ErrMany
	}
	for _, t := range q {
		if e := Check(t); e != api.OK {
			return e
		}
	}
	return api.OK
}

// Vars: the greatest number of a variable in a query.
func Vars(q []api.Term) (int, api.Errno) {
	if e := Query(q); e != api.OK {
		return 0, e
	}
	return greatest(q...), api.OK
}

// room: how much of n is left behind all parts of terms; below 0, if there are more than n.
// It counts no further than that, because lists can be laid so that a term stands in its own arguments.
func room(n int, terms ...api.Term) int {
	for _, t := range terms {
		if n == 0 {
			return -1
		}
		n = room(n-1, t.Args...)
		if n < 0 {
			return n
		}
	}
	return n
}

// parts: the first error of terms, each part ahead of its arguments, from the left.
func parts(terms ...api.Term) api.Errno {
	for _, t := range terms {
		if e := part(t); e != api.OK {
			return e
		}
		if e := parts(t.Args...); e != api.OK {
			return e
		}
	}
	return api.OK
}

// part: the error of a part, whatever its arguments are.
func part(t api.Term) api.Errno {
	switch {
	case t.Var != 0:
		return variable(t)
	case t.Name != api.NameCut && !word(t.Name):
		return api.ErrForm
	case len(t.Args) > api.MaxArgs:
		return api.ErrMany
	case t.Name == api.NameCut && len(t.Args) > 0:
		return api.ErrForm
	}
	return api.OK
}

// variable: the error of a part that is one.
func variable(t api.Term) api.Errno {
	if t.Var < 1 || t.Var > api.MaxVar {
		return api.ErrRange
	}
	if t.Name != "" || len(t.Args) > 0 {
		return api.ErrForm
	}
	return api.OK
}

// word: is it a name (but for NameCut)?
func word(s string) bool {
	if len(s) < 1 || len(s) > api.MaxName || !letter(s[0]) {
		return false
	}
	for i := range len(s) {
		if !letter(s[i]) && (s[i] < '0' || s[i] > '9') && s[i] != '_' {
			return false
		}
	}
	return true
}

// letter: is it one that may stand in a name?
func letter(b byte) bool {
	return 'a' <= b && b <= 'z'
}

// head: the error of a clause's head.
func head(t api.Term) api.Errno {
	if e := Check(t); e != api.OK {
		return e
	}
	if t.Var != 0 {
		return api.ErrForm
	}
	if means(t) {
		return api.ErrState
	}
	return api.OK
}

// means: does it mean something as a goal?
func means(t api.Term) bool {
	switch t.Name {
	case api.NameCut, api.NameTrue, api.NameFail:
		return len(t.Args) == 0
	case api.NameSame:
		return len(t.Args) == 2
	}
	return false
}

// greatest number of a variable in terms.
func greatest(terms ...api.Term) int {
	n := 0
	for _, t := range terms {
		n = max(n, t.Var, greatest(t.Args...))
	}
	return n
}
