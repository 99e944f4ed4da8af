// Package spell: terms as texts, whatever their size and their variables: the common ground of text and top.
package spell

import (
	"strconv"
	"strings"

	"palisade/api"
)

// What stands between parts of terms; reading and writing must agree on it.
const (
	Sign  = "V"  // ahead of a variable's number
	Open  = "("  // ahead of arguments
	Comma = ", " // between terms
	Shut  = ")"  // behind arguments
)

// Terms are written behind a text.
func Terms(b *strings.Builder, terms ...api.Term) {
	for i, t := range terms {
		if i > 0 {
			b.WriteString(Comma)
		}
		if t.Var != 0 {
			b.WriteString(Sign)
			b.WriteString(strconv.Itoa(t.Var))
			continue
		}
		b.WriteString(t.Name)
		if len(t.Args) > 0 {
			b.WriteString(Open)
			Terms(b, t.Args...)
			b.WriteString(Shut)
		}
	}
}
