// Package text: texts: see doc/02-text.md.
package text

import (
	"strings"

	"palisade/api"
	"palisade/spell"
	"palisade/term"
)

// What stands between parts of clauses; reading and writing must agree on it.
const (
	given = " :- " // ahead of a body
	stop  = ".\n"  // behind a clause
)

// Print a program.
func Print(p api.Program) (string, api.Errno) {
	if e := term.Clauses(p); e != api.OK {
		return "", e
	}
	var b strings.Builder
	for _, c := range p {
		spell.Terms(&b, c.Head)
		if len(c.Body) > 0 {
			b.WriteString(given)
			spell.Terms(&b, c.Body...)
		}
		b.WriteString(stop)
	}
	return b.String(), api.OK
}

// Goals as a text.
func Goals(q []api.Term) (string, api.Errno) {
	if e := term.Query(q); e != api.OK {
		return "", e
	}
	if len(q) == 0 {
		return api.NameTrue, api.OK
	}
	var b strings.Builder
	spell.Terms(&b, q...)
	return b.String(), api.OK
}

// Parse a program.
func Parse(s string) (api.Program, int, api.Errno) {
	return parse(s, (*reader).program, term.Clauses)
}

// ParseGoals: the goals of a text.
func ParseGoals(s string) ([]api.Term, int, api.Errno) {
	return parse(s, (*reader).goals, term.Query)
}
