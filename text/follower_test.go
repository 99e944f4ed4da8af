package text_test

import (
	"strings"
	"testing"

	"palisade/api"
	"palisade/text"
)

// follower goes through a text byte by byte and knows which bytes may come next: what B1 says, told another way than the reader does.
type follower struct {
	program bool   // of a program, else of goals
	body    bool   // behind the head of a clause
	depth   int    // how many brackets are open
	need    string // what must come next, to the byte
	in      string // where it is: "start" of a term, behind "V", in a "number", in a "name", "behind" a term; "line" ahead of a clause
}

// next: may this byte come next? If so, it came.
func (w *follower) next(b byte) bool {
	switch digit := '0' <= b && b <= '9'; {
	case w.need != "":
		if b != w.need[0] {
			return false
		}
		w.need = w.need[1:]
	case w.in == "start" || w.in == "line":
		return w.first(b)
	case w.in == "V":
		if !digit || b == '0' {
			return false
		}
		w.in = "number"
	case w.in == "number" && digit:
		w.in = "behind"
	case w.in == "name" && (digit || b == '_' || 'a' <= b && b <= 'z'):
	case (w.in == "name" || w.in == "cut") && b == '(':
		w.depth++
		w.in = "start"
	default:
		return w.behind(b)
	}
	return true
}

// first byte of a term.
func (w *follower) first(b byte) bool {
	switch {
	case b == 'V':
		w.in = "V"
	case b == '!':
		w.in = "cut"
	case 'a' <= b && b <= 'z':
		w.in = "name"
	default:
		return false
	}
	return true
}

// behind a term.
func (w *follower) behind(b byte) bool {
	switch {
	case b == ',' && (w.depth > 0 || w.body || !w.program):
		w.in, w.need = "start", " "
	case b == ')' && w.depth > 0:
		w.depth--
		w.in = "behind"
	case b == ' ' && w.depth == 0 && w.program && !w.body:
		w.in, w.need, w.body = "start", ":- ", true
	case b == '.' && w.depth == 0 && w.program:
		w.in, w.need, w.body = "line", "\n", false
	default:
		return false
	}
	return true
}

// mayEnd: may the text end here?
func (w *follower) mayEnd() bool {
	if w.need != "" || w.depth > 0 || w.in == "start" || w.in == "V" {
		return false
	}
	return (w.in == "line") == w.program
}

// wrongAt: the first byte at which it is no text of the form; -1, if it is one.
func wrongAt(s string, program bool) int {
	w := follower{program: program, in: "start"}
	if program {
		w.in = "line"
	}
	for i := range len(s) {
		if !w.next(s[i]) {
			return i
		}
	}
	if !w.mayEnd() {
		return len(s)
	}
	return -1
}

// mayGoOn: is it a text of the form, or the beginning of one?
func mayGoOn(s string, program bool) bool {
	at := wrongAt(s, program)
	return at < 0 || at == len(s)
}

// holdAgainst the follower: B2 of one text; and B3: what was parsed is printed as it was.
func holdAgainst(t *testing.T, s string) {
	p, at, e := text.Parse(s)
	if want := wrongAt(s, true); want >= 0 && (at != want || e != api.ErrForm) || want < 0 && at != 0 {
		t.Fatalf("B2: Parse of %q: %d %d, and the first wrong byte is %d", s, at, e, want)
	}
	if e == api.OK {
		if got, e := text.Print(p); got != s || e != api.OK {
			t.Fatalf("B3: Print of what %q was: %q %d", s, got, e)
		}
	}
	q, at, e := text.ParseGoals(s)
	if want := wrongAt(s, false); want >= 0 && (at != want || e != api.ErrForm) || want < 0 && at != 0 {
		t.Fatalf("B2: ParseGoals of %q: %d %d, and the first wrong byte is %d", s, at, e, want)
	}
	if e == api.OK {
		if got, e := text.Goals(q); got != s || e != api.OK {
			t.Fatalf("B3: Goals of what %q was: %q %d", s, got, e)
		}
	}
}

// TestAllShort: B2, B3 of all that can be written with few signs, each with any byte behind it.
func TestAllShort(t *testing.T) {
	const signs = "aV1!(), .:-\n"
	var grow func(s string, more int)
	grow = func(s string, more int) {
		for b := range 256 {
			holdAgainst(t, s+string([]byte{byte(b)}))
		}
		for i := range len(signs) {
			longer := s + signs[i:i+1]
			if more > 0 && (mayGoOn(longer, true) || mayGoOn(longer, false)) {
				grow(longer, more-1)
			}
		}
	}
	grow("", 5)
}

// TestChanged: B2, B3 of texts that are right, with a byte less, more, or another one.
func TestChanged(t *testing.T) {
	const signs = "azV019_!(), .:-\n~\x00\xff"
	var texts []string
	for s := range programs() {
		texts = append(texts, s)
	}
	for s := range goals() {
		texts = append(texts, s)
	}
	for _, s := range texts {
		for at := range len(s) {
			holdAgainst(t, s[:at])
			holdAgainst(t, s[:at]+s[at+1:])
			for i := range len(signs) {
				holdAgainst(t, s[:at]+signs[i:i+1]+s[at+1:])
				holdAgainst(t, s[:at]+signs[i:i+1]+s[at:])
			}
		}
	}
}

// draw numbers; the same each time.
type draw uint64

func (d *draw) below(n int) int {
	*d = *d*6364136223846793005 + 1442695040888963407
	return int(uint64(*d) >> 33 % uint64(n))
}

// term that is drawn, so deep at most.
func (d *draw) term(deep int) api.Term {
	if d.below(3) == 0 {
		return v(1 + d.below(api.MaxVar))
	}
	const signs = "abyz_0189"
	name := string(signs[d.below(4)])
	for range d.below(api.MaxName) {
		name += string(signs[d.below(len(signs))])
	}
	if d.below(8) == 0 {
		return f([]string{"!", "true", "fail", "eq"}[d.below(4)])
	}
	t := f(name)
	for range min(deep, 1) * d.below(api.MaxArgs+1) {
		t.Args = append(t.Args, d.term(deep-1))
	}
	return t
}

// TestDrawn: B3 of goals and programs that are drawn: what is printed is parsed as it was, but for goals that are true alone.
func TestDrawn(t *testing.T) {
	d := draw(1)
	done := 0
	for range 3000 {
		var q []api.Term
		for range d.below(api.MaxBody + 1) {
			q = append(q, d.term(2))
		}
		s, e := text.Goals(q)
		if e != api.OK {
			t.Fatalf("B1: Goals of %v: %d", q, e)
		}
		got, at, e := text.ParseGoals(s)
		if s == "true" {
			q = nil
		}
		if !same(got, q) || at != 0 || e != api.OK {
			t.Fatalf("B3: ParseGoals of %q: %v %d %d", s, got, at, e)
		}
		p := api.Program{}
		for range d.below(5) {
			p = append(p, api.Clause{Head: f("p", d.term(1)), Body: q})
		}
		s, e = text.Print(p)
		if e != api.OK || len(s) > 6000 {
			continue
		}
		done++
		if got, at, e := text.Parse(s); !sameProgram(got, p) || at != 0 || e != api.OK {
			t.Fatalf("B3: Parse of %q: %v %d %d", s, got, at, e)
		}
	}
	if done < 2000 {
		t.Errorf("B3: only %d programs were tried", done)
	}
}

// TestFollower: what the tests are held against is right where it can be told by hand.
func TestFollower(t *testing.T) {
	for s := range programs() {
		if at := wrongAt(s, true); at != -1 {
			t.Errorf("%q: %d", s, at)
		}
	}
	for s := range goals() {
		if at := wrongAt(s, false); at != -1 {
			t.Errorf("%q: %d", s, at)
		}
	}
	if at := wrongAt(strings.Repeat("s(", 9), false); at != 18 {
		t.Errorf("too few brackets: %d", at)
	}
}
