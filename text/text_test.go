package text_test

import (
	"strings"
	"testing"

	"palisade/api"
	"palisade/text"
)

func v(n int) api.Term { return api.Term{Var: n} }

func f(name string, args ...api.Term) api.Term { return api.Term{Name: name, Args: args} }

// goals that are right, and their texts.
func goals() map[string][]api.Term {
	return map[string][]api.Term{
		"true":                nil,
		"V1":                  {v(1)},
		"V9, V10, V12":        {v(9), v(10), v(12)},
		"a":                   {f("a")},
		"a, b":                {f("a"), f("b")},
		"true, true":          {f("true"), f("true")},
		"true(a)":             {f("true", f("a"))},
		"truer":               {f("truer")},
		"!":                   {f("!")},
		"!, fail":             {f("!"), f("fail")},
		"az_09, abcdefgh":     {f("az_09"), f("abcdefgh")},
		"v1, v(v1)":           {f("v1"), f("v", f("v1"))},
		"f(!, true)":          {f("f", f("!"), f("true"))},
		"f(V1, g(a, V2), b)":  {f("f", v(1), f("g", f("a"), v(2)), f("b"))},
		"f(V1, V2, V3, V4)":   {f("f", v(1), v(2), v(3), v(4))},
		"f(g(h(i(V1)))), V11": {f("f", f("g", f("h", f("i", v(1))))), v(11)},
		"a, b, c, d, e, f":    {f("a"), f("b"), f("c"), f("d"), f("e"), f("f")},
	}
}

// programs that are right, and their texts.
func programs() map[string]api.Program {
	return map[string]api.Program{
		"":                  nil,
		"a.\n":              {{Head: f("a")}},
		"a.\na.\n":          {{Head: f("a")}, {Head: f("a")}},
		"a :- true.\n":      {{Head: f("a"), Body: []api.Term{f("true")}}},
		"a :- true, b.\n":   {{Head: f("a"), Body: []api.Term{f("true"), f("b")}}},
		"a(V1) :- V1, !.\n": {{Head: f("a", v(1)), Body: []api.Term{v(1), f("!")}}},
		"p(a).\np(V1) :- eq(V1, b).\n": {
			{Head: f("p", f("a"))},
			{Head: f("p", v(1)), Body: []api.Term{f("eq", v(1), f("b"))}},
		},
		"true(a).\neq(a).\nfail(!).\n": {{Head: f("true", f("a"))}, {Head: f("eq", f("a"))}, {Head: f("fail", f("!"))}},
	}
}

// same: is it the same list of terms (where an empty list may be nil or not)?
func same(a, b []api.Term) bool {
	if len(a) != len(b) {
		return false
	}
	for i := range a {
		if a[i].Var != b[i].Var || a[i].Name != b[i].Name || !same(a[i].Args, b[i].Args) {
			return false
		}
	}
	return true
}

// sameProgram: is it the same one?
func sameProgram(a, b api.Program) bool {
	if len(a) != len(b) {
		return false
	}
	for i := range a {
		if !same([]api.Term{a[i].Head}, []api.Term{b[i].Head}) || !same(a[i].Body, b[i].Body) {
			return false
		}
	}
	return true
}

// TestGoals: B1, B2, B3 of goals that are right.
func TestGoals(t *testing.T) {
	for s, q := range goals() {
		if got, e := text.Goals(q); got != s || e != api.OK {
			t.Errorf("B1: Goals %q %d, and must be %q", got, e, s)
		}
		if got, at, e := text.ParseGoals(s); !same(got, q) || at != 0 || e != api.OK {
			t.Errorf("B2: ParseGoals of %q: %v %d %d", s, got, at, e)
		}
	}
	if s, e := text.Goals([]api.Term{f("true")}); s != "true" || e != api.OK {
		t.Errorf("B1, B3: goals that are true alone: %q %d", s, e)
	}
	if s, e := text.Goals([]api.Term{}); s != "true" || e != api.OK {
		t.Errorf("B1: no goals: %q %d", s, e)
	}
}

// TestPrograms: B1, B2, B3 of programs that are right.
func TestPrograms(t *testing.T) {
	for s, p := range programs() {
		if got, e := text.Print(p); got != s || e != api.OK {
			t.Errorf("B1: Print %q %d, and must be %q", got, e, s)
		}
		if got, at, e := text.Parse(s); !sameProgram(got, p) || at != 0 || e != api.OK {
			t.Errorf("B2: Parse of %q: %v %d %d", s, got, at, e)
		}
	}
	if s, e := text.Print(api.Program{{Head: f("a"), Body: []api.Term{}}}); s != "a.\n" || e != api.OK {
		t.Errorf("B1: a body without elements: %q %d", s, e)
	}
}

// TestPrintErrors: B1: what Clauses and Query say, and no text then.
func TestPrintErrors(t *testing.T) {
	deep := v(1)
	for range api.MaxSize {
		deep = f("s", deep)
	}
	for _, c := range []struct {
		term        api.Term
		fact, goals api.Errno
	}{
		{api.Term{}, api.ErrForm, api.ErrForm},
		{f("A"), api.ErrForm, api.ErrForm},
		{f("f", v(13)), api.ErrRange, api.ErrRange},
		{f("!", v(1)), api.ErrForm, api.ErrForm},
		{deep, api.ErrMany, api.ErrMany},
		{v(1), api.ErrForm, api.OK},
		{f("!"), api.ErrState, api.OK},
		{f("eq", v(1), v(2)), api.ErrState, api.OK},
	} {
		if s, e := text.Print(api.Program{{Head: f("a")}, {Head: c.term}}); s != "" || e != c.fact {
			t.Errorf("B1: Print of %v: %q %d, and must be %d", c.term, s, e, c.fact)
		}
		if s, e := text.Goals([]api.Term{f("a"), c.term}); (s == "") != (c.goals != api.OK) || e != c.goals {
			t.Errorf("B1: Goals of %v: %q %d, and must be %d", c.term, s, e, c.goals)
		}
	}
	if s, e := text.Print(make(api.Program, api.MaxClauses+1)); s != "" || e != api.ErrMany {
		t.Errorf("B1: Print of too many: %q %d", s, e)
	}
	if s, e := text.Goals(make([]api.Term, api.MaxBody+1)); s != "" || e != api.ErrMany {
		t.Errorf("B1: Goals of too many: %q %d", s, e)
	}
}

// answer of parsing: the place, and the error.
type answer struct {
	at int
	e  api.Errno
}

// TestParseErrors: B2: which error, where, and nothing else.
func TestParseErrors(t *testing.T) {
	form := func(at int) answer { return answer{at, api.ErrForm} }
	said := func(e api.Errno) answer { return answer{0, e} }
	times := strings.Repeat
	for _, c := range []struct {
		s              string
		program, goals answer
	}{
		{"", said(api.OK), form(0)},
		{"~", form(0), form(0)},
		{"\x00", form(0), form(0)},
		{"\u00e4", form(0), form(0)},
		{"a\u00e4", form(1), form(1)},
		{" a", form(0), form(0)},
		{"_a", form(0), form(0)},
		{"1", form(0), form(0)},
		{"A", form(0), form(0)},
		{"a", form(1), said(api.OK)},
		{"a ", form(2), form(1)},
		{"a :- ", form(5), form(1)},
		{"a :- .\n", form(5), form(1)},
		{"a:-b.\n", form(1), form(1)},
		{"a :-b.\n", form(4), form(1)},
		{"a.", form(2), form(1)},
		{"a. ", form(2), form(1)},
		{"a.\r\n", form(2), form(1)},
		{"a.\n ", form(3), form(1)},
		{"a.\n\n", form(3), form(1)},
		{"a.\nb", form(4), form(1)},
		{"a, b.\n", form(1), form(4)},
		{"a,", form(1), form(2)},
		{"a,b", form(1), form(2)},
		{"a, ", form(1), form(3)},
		{"a,  b", form(1), form(3)},
		{"true, ", form(4), form(6)},
		{"V", form(1), form(1)},
		{"Va", form(1), form(1)},
		{"V0", form(1), form(1)},
		{"V01", form(1), form(1)},
		{"V1a", form(2), form(2)},
		{"V1(a)", form(2), form(2)},
		{"V123", form(3), form(3)},
		{"V10", form(3), said(api.OK)},
		{"V12", form(3), said(api.OK)},
		{"V13", form(3), said(api.ErrRange)},
		{"V99", form(3), said(api.ErrRange)},
		{"V99, ~", form(3), form(5)},
		{"!a", form(1), form(1)},
		{"!!", form(1), form(1)},
		{"!(a)", form(4), said(api.ErrForm)},
		{"a!", form(1), form(1)},
		{"f(", form(2), form(2)},
		{"f()", form(2), form(2)},
		{"f (a)", form(2), form(1)},
		{"f( a)", form(2), form(2)},
		{"f(a", form(3), form(3)},
		{"f(a )", form(3), form(3)},
		{"f(a,b)", form(4), form(4)},
		{"f(a, )", form(5), form(5)},
		{"f(a, b", form(6), form(6)},
		{"f(a))", form(4), form(4)},
		{"f(a)(b)", form(4), form(4)},
		{"f(a)b", form(4), form(4)},
		{"V1.\n", said(api.ErrForm), form(2)},
		{"!.\n", said(api.ErrState), form(1)},
		{"eq(a, b).\n", said(api.ErrState), form(8)},
		{"p(V13).\n", said(api.ErrRange), form(6)},
		{"a :- V13.\n", said(api.ErrRange), form(1)},
		{"abcdefghi", form(9), said(api.ErrForm)},
		{"abcdefghi.\n", said(api.ErrForm), form(9)},
		{"abcdefghi~", form(9), form(9)},
		{"f(a, b, c, d, e)", form(16), said(api.ErrMany)},
		{"f(a, b, c, d, e).\n", said(api.ErrMany), form(16)},
		{"f(a, b, c, d, e~", form(15), form(15)},
		{"a, b, c, d, e, f, g", form(1), said(api.ErrMany)},
		{"a, b, c, d, e, f, g~", form(1), form(19)},
		{"p :- a, b, c, d, e, f, g.\n", said(api.ErrMany), form(1)},
		{"p :- a, b, c, d, e, f, g.~", form(25), form(1)},
		{times("a.\n", 31), said(api.ErrMany), form(1)},
		{times("a.\n", 31) + "~", form(93), form(1)},
		{"A" + times("a.\n", 31), form(0), form(0)},
		{times("s(", 60) + "a" + times(")", 60), form(181), said(api.ErrMany)},
		{times("s(", 60) + "a" + times(")", 60) + ".\n", said(api.ErrMany), form(181)},
		{times("s(", 3000), form(6000), form(6000)},
		{times("a", 6000), form(6000), said(api.ErrForm)},
		{times("a", 6001), said(api.ErrMany), said(api.ErrMany)},
		{times("~", 6001), said(api.ErrMany), said(api.ErrMany)},
	} {
		p, at, e := text.Parse(c.s)
		if (answer{at, e}) != c.program || e != api.OK && len(p) > 0 {
			t.Errorf("B2: Parse of %.40q: %v %d %d, and must be %v", c.s, p, at, e, c.program)
		}
		q, at, e := text.ParseGoals(c.s)
		if (answer{at, e}) != c.goals || e != api.OK && len(q) > 0 {
			t.Errorf("B2: ParseGoals of %.40q: %v %d %d, and must be %v", c.s, q, at, e, c.goals)
		}
	}
}

// TestLongest: B1, B2: a program of 6000 bytes is parsed, one of a byte more is printed alone.
func TestLongest(t *testing.T) {
	line := func(inner string) string {
		return strings.Repeat("abcdefgh(", 18) + inner + strings.Repeat(")", 18) + ".\n"
	}
	just := strings.Repeat(line("f(abcdefgh, abcde)"), api.MaxClauses)
	p, at, e := text.Parse(just)
	if len(just) != 6000 || len(p) != api.MaxClauses || at != 0 || e != api.OK {
		t.Fatalf("B2: of %d bytes: %d %d %d", len(just), len(p), at, e)
	}
	p[0].Head.Name = "abcdefg"
	q, _, _ := text.Parse(line("f(abcdefgh, abcdefg)"))
	p[1] = q[0]
	s, e := text.Print(p)
	if len(s) != 6001 || e != api.OK {
		t.Errorf("B1: %d bytes %d", len(s), e)
	}
	if p, at, e := text.Parse(s); len(p) != 0 || at != 0 || e != api.ErrMany {
		t.Errorf("B2: of %d bytes: %d %d %d", len(s), len(p), at, e)
	}
}

// TestMemory: P2: what is handed in, and the spare room behind it, is only read; no two lists of an answer share memory. P3: asked again, it is the same.
func TestMemory(t *testing.T) {
	args := []api.Term{v(1), f("b"), v(9)}
	q := []api.Term{{Name: "f", Args: args[:2]}, f("c"), v(8)}
	for range 2 {
		if s, e := text.Goals(q[:2]); s != "f(V1, b), c" || e != api.OK {
			t.Errorf("P2: Goals %q %d", s, e)
		}
		if s, e := text.Print(api.Program{{Head: q[0], Body: q[:2]}}); s != "f(V1, b) :- f(V1, b), c.\n" || e != api.OK {
			t.Errorf("P2: Print %q %d", s, e)
		}
	}
	if args[2].Var != 9 || q[2].Var != 8 {
		t.Errorf("P2: the spare room was written to: %v %v", args, q)
	}
	const s = "p(V1, f(a), c) :- q(V1, g(b)), r(d), t.\np(e, f).\n"
	p, _, _ := text.Parse(s)
	for _, c := range p {
		spoilSpare(c.Body)
		spoilSpare(c.Head.Args)
	}
	if got, e := text.Print(p); got != s || e != api.OK {
		t.Errorf("P2: lists share memory: %q %d", got, e)
	}
	p[0].Head.Args[0] = f("z")
	if again, _, _ := text.Parse(s); again[0].Head.Args[0].Var != 1 {
		t.Errorf("P3: a later answer is another one: %v", again)
	}
}

// spoilSpare: write to all spare room behind lists of terms.
func spoilSpare(l []api.Term) {
	for i := len(l); i < cap(l); i++ {
		l[:cap(l)][i] = f("spoilt")
	}
	for _, t := range l {
		spoilSpare(t.Args)
	}
}
