// Package text: texts: see doc/02-text.md.
package text

import (
	"strconv"
	"strings"

	"palisade/api"
	"palisade/term"
)

// What stands between parts of a text; reading and writing must agree on it.
const (
	sign  = "V"    // ahead of a variable's number
	open  = "("    // ahead of arguments
	comma = ", "   // between terms
	shut  = ")"    // behind arguments
	given = " :- " // ahead of a body
	stop  = ".\n"  // behind a clause
)

// Print a program.
func Print(p api.Program) (string, api.Errno) {
	if e := term.Clauses(p); e != api.OK {
		return "", e
	}
	var b strings.Builder
	for _, c := range p {
		write(&b, c.Head)
		if len(c.Body) > 0 {
			b.WriteString(given)
			write(&b, c.Body...)
		}
		b.WriteString(stop)
	}
	return b.String(), api.OK
}

// Goals as a text.
func Goals(q []api.Term) (string, api.Errno) {
	if e := term.Query(q); e != api.OK {
		return "", e
	}
	if len(q) == 0 {
		return api.NameTrue, api.OK
	}
	var b strings.Builder
	write(&b, q...)
	return b.String(), api.OK
}

// Parse a program.
func Parse(s string) (api.Program, int, api.Errno) {
	return parse(s, (*reader).program, term.Clauses)
}

// ParseGoals: the goals of a text.
func ParseGoals(s string) ([]api.Term, int, api.Errno) {
	return parse(s, (*reader).goals, term.Query)
}

// write terms.
func write(b *strings.Builder, terms ...api.Term) {
	for i, t := range terms {
		if i > 0 {
			b.WriteString(comma)
		}
		if t.Var != 0 {
			b.WriteString(sign)
			b.WriteString(strconv.Itoa(t.Var))
			continue
		}
		b.WriteString(t.Name)
		if len(t.Args) > 0 {
			b.WriteString(open)
			write(b, t.Args...)
			b.WriteString(shut)
		}
	}
}
