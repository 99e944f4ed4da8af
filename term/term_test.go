package term_test

import (
	"reflect"
	"strings"
	"testing"

	"palisade/api"
	"palisade/term"
)

func v(n int) api.Term { return api.Term{Var: n} }

func f(name string, args ...api.Term) api.Term { return api.Term{Name: name, Args: args} }

// nest n names around a term.
func nest(n int, t api.Term) api.Term {
	for range n {
		t = f("s", t)
	}
	return t
}

// spread: a term of so many parts, which is not deep.
func spread(n int) api.Term {
	t := f("f")
	for n--; n > 0 && len(t.Args) < api.MaxArgs; {
		size := min(n, 20)
		t.Args = append(t.Args, nest(size-1, v(1)))
		n -= size
	}
	return t
}

// endless: a term that stands in its own arguments.
func endless() api.Term {
	args := make([]api.Term, 1)
	args[0] = f("s", args...)
	return args[0]
}

func TestCheck(t *testing.T) {
	for _, c := range []struct {
		about string
		term  api.Term
		want  api.Errno
	}{
		{"A1: the least variable", v(1), api.OK},
		{"A1: the greatest variable", v(api.MaxVar), api.OK},
		{"A1: a variable too great", v(api.MaxVar + 1), api.ErrRange},
		{"A1: a variable below 0", v(-1), api.ErrRange},
		{"A1: a variable with a name", api.Term{Var: 1, Name: "a"}, api.ErrForm},
		{"A1: a variable with an argument", api.Term{Var: 1, Args: []api.Term{v(1)}}, api.ErrForm},
		{"A1: range ahead of form", api.Term{Var: 13, Name: "a"}, api.ErrRange},
		{"A1: a variable with a list without elements", api.Term{Var: 1, Args: []api.Term{}}, api.OK},
		{"A1: neither a variable nor a name", api.Term{}, api.ErrForm},
		{"A1: a name of one sign", f("a"), api.OK},
		{"A1: all kinds of signs", f("az09_"), api.OK},
		{"A1: the longest name", f("abcdefgh"), api.OK},
		{"A1: a name too long", f("abcdefghi"), api.ErrForm},
		{"A1: a digit first", f("1a"), api.ErrForm},
		{"A1: a line first", f("_a"), api.ErrForm},
		{"A1: a great letter", f("aB"), api.ErrForm},
		{"A1: ahead of a", f("a\x60"), api.ErrForm},
		{"A1: behind z", f("a{"), api.ErrForm},
		{"A1: ahead of 0", f("a/"), api.ErrForm},
		{"A1: behind 9", f("a:"), api.ErrForm},
		{"A1: a byte of none", f("a\x00"), api.ErrForm},
		{"A1: a letter of more bytes", f("\u00e4"), api.ErrForm},
		{"A1: the cut", f(api.NameCut), api.OK},
		{"A1: the cut twice", f("!!"), api.ErrForm},
		{"A1: the cut with an argument", f(api.NameCut, v(1)), api.ErrForm},
		{"A1: the cut with too many arguments", f(api.NameCut, v(1), v(1), v(1), v(1), v(1)), api.ErrMany},
		{"A1: as many arguments as may be", f("f", v(1), v(2), v(3), v(4)), api.OK},
		{"A1: too many arguments", f("f", v(1), v(2), v(3), v(4), v(5)), api.ErrMany},
		{"A1: form ahead of many", f("F", v(1), v(2), v(3), v(4), v(5)), api.ErrForm},
		{"A1: a part ahead of its arguments", f("F", v(13)), api.ErrForm},
		{"A1: its arguments ahead of what is right of it", f("f", f("g", v(13)), f("F")), api.ErrRange},
		{"A1: from the left", f("f", f("F"), v(13)), api.ErrForm},
		{"A1: the last argument", f("f", v(1), v(2), v(3), f("F")), api.ErrForm},
		{"A1: as deep as may be", nest(api.MaxSize-1, v(1)), api.OK},
		{"A1: too deep", nest(api.MaxSize, v(1)), api.ErrMany},
		{"A1: as great as may be", spread(api.MaxSize), api.OK},
		{"A1: too great", spread(api.MaxSize + 1), api.ErrMany},
		{"A1: too great ahead of all else", nest(api.MaxSize, v(13)), api.ErrMany},
		{"A1: all parts count, a variable's arguments too", api.Term{Var: 13, Args: make([]api.Term, api.MaxSize)}, api.ErrMany},
		{"A1: far too many arguments", f("F", make([]api.Term, 1<<20)...), api.ErrMany},
		{"P1: a term within itself", endless(), api.ErrMany},
		{"P1: many nested in one another", nest(1<<16, v(1)), api.ErrMany},
	} {
		if got := term.Check(c.term); got != c.want {
			t.Errorf("%s: %d, and must be %d", c.about, got, c.want)
		}
	}
}

func TestClauses(t *testing.T) {
	fact := func(h api.Term) api.Program { return api.Program{{Head: h}} }
	rule := func(body ...api.Term) api.Program { return api.Program{{Head: f("p"), Body: body}} }
	six := []api.Term{v(1), f("a"), f("!"), f("true"), f("fail"), f("eq", v(1), v(2))}
	right := api.Clause{Head: f("p", v(1)), Body: six}
	full := api.Program{}
	for range api.MaxClauses {
		full = append(full, right)
	}
	for _, c := range []struct {
		about string
		p     api.Program
		want  api.Errno
	}{
		{"A2: none", nil, api.OK},
		{"A2: none, not nil", api.Program{}, api.OK},
		{"A2: as many as may be", full, api.OK},
		{"A2: too many", append(full[:len(full):len(full)], right), api.ErrMany},
		{"A2: too many ahead of what is wrong", make(api.Program, api.MaxClauses+1), api.ErrMany},
		{"A2: a head that is wrong", fact(f("A")), api.ErrForm},
		{"A2: a head that is out of range within", fact(f("p", v(13))), api.ErrRange},
		{"A2: a head that is too great", fact(nest(api.MaxSize, v(1))), api.ErrMany},
		{"A2: a head that is a variable", fact(v(1)), api.ErrForm},
		{"A2: a head that is a variable out of range", fact(v(13)), api.ErrRange},
		{"A2: the cut as a head", fact(f("!")), api.ErrState},
		{"A2: the cut with an argument as a head", fact(f("!", v(1))), api.ErrForm},
		{"A2: true as a head", fact(f("true")), api.ErrState},
		{"A2: true with an argument as a head", fact(f("true", v(1))), api.OK},
		{"A2: fail as a head", fact(f("fail")), api.ErrState},
		{"A2: fail with an argument as a head", fact(f("fail", v(1))), api.OK},
		{"A2: eq as a head", fact(f("eq")), api.OK},
		{"A2: eq with one as a head", fact(f("eq", v(1))), api.OK},
		{"A2: eq with two as a head", fact(f("eq", v(1), v(2))), api.ErrState},
		{"A2: eq with three as a head", fact(f("eq", v(1), v(2), v(3))), api.OK},
		{"A2: a body of six", rule(six...), api.OK},
		{"A2: a body of seven", rule(append(six[:6:6], f("a"))...), api.ErrMany},
		{"A2: a body of seven that is wrong", rule(make([]api.Term, 7)...), api.ErrMany},
		{"A2: a head ahead of its body", api.Program{{Head: v(1), Body: make([]api.Term, 7)}}, api.ErrForm},
		{"A2: what a head means ahead of its body", api.Program{{Head: f("fail"), Body: make([]api.Term, 7)}}, api.ErrState},
		{"A2: the last one of a body", rule(v(1), v(2), v(13)), api.ErrRange},
		{"A2: a body from the left", rule(v(1), f("A"), v(13)), api.ErrForm},
		{"A2: clause by clause", api.Program{right, {Head: f("p"), Body: []api.Term{v(13)}}, {Head: f("A")}}, api.ErrRange},
		{"P1: a head within itself", fact(endless()), api.ErrMany},
		{"P1: a body within itself", rule(endless()), api.ErrMany},
	} {
		if got := term.Clauses(c.p); got != c.want {
			t.Errorf("%s: %d, and must be %d", c.about, got, c.want)
		}
	}
}

func TestQuery(t *testing.T) {
	for _, c := range []struct {
		about string
		q     []api.Term
		want  api.Errno
		vars  int
	}{
		{"A2, A3: none", nil, api.OK, 0},
		{"A2, A3: none, not nil", []api.Term{}, api.OK, 0},
		{"A2, A3: no variable", []api.Term{f("a"), f("f", f("b"))}, api.OK, 0},
		{"A3: the example", []api.Term{f("a", v(3))}, api.OK, 3},
		{"A3: a variable as a goal", []api.Term{v(12)}, api.OK, 12},
		{"A3: the greatest one first", []api.Term{f("f", v(7), v(2)), v(3)}, api.OK, 7},
		{"A3: the greatest one last", []api.Term{v(3), f("f", v(2), v(7))}, api.OK, 7},
		{"A3: the greatest one in the midst", []api.Term{v(3), f("f", v(2), f("g", v(9)), v(7)), v(1)}, api.OK, 9},
		{"A3: deep", []api.Term{nest(api.MaxSize-1, v(5))}, api.OK, 5},
		{"A2: what means something", []api.Term{f("!"), f("true"), f("fail"), f("eq", v(1), v(2))}, api.OK, 2},
		{"A2: six", []api.Term{v(1), v(2), v(3), v(4), v(5), v(6)}, api.OK, 6},
		{"A2: seven", []api.Term{v(1), v(2), v(3), v(4), v(5), v(6), v(7)}, api.ErrMany, 0},
		{"A2: seven that are wrong", make([]api.Term, 7), api.ErrMany, 0},
		{"A2, A3: a wrong one behind a right one", []api.Term{v(1), v(13)}, api.ErrRange, 0},
		{"A2: from the left", []api.Term{f("A"), v(13)}, api.ErrForm, 0},
		{"A2: too great", []api.Term{v(1), nest(api.MaxSize, v(1))}, api.ErrMany, 0},
		{"P1: within itself", []api.Term{endless()}, api.ErrMany, 0},
	} {
		if got := term.Query(c.q); got != c.want {
			t.Errorf("%s: Query %d, and must be %d", c.about, got, c.want)
		}
		if n, e := term.Vars(c.q); n != c.vars || e != c.want {
			t.Errorf("%s: Vars %d %d, and must be %d %d", c.about, n, e, c.vars, c.want)
		}
	}
}

// P2: what is handed in, and the spare room behind it, stays as it was. P3: asked again, it is the same.
func TestOnlyRead(t *testing.T) {
	list := func() []api.Term {
		args := []api.Term{v(1), f("g", v(4)), v(9), v(9)}
		return []api.Term{{Name: "f", Args: args[:2]}, v(2), v(8), f(strings.Repeat("x", 9))}
	}
	l := list()
	for range 2 {
		if e := term.Check(l[0]); e != api.OK {
			t.Errorf("Check %d", e)
		}
		if e := term.Clauses(api.Program{{Head: l[0], Body: l[:2]}}); e != api.OK {
			t.Errorf("Clauses %d", e)
		}
		if n, e := term.Vars(l[:2]); n != 4 || e != api.OK {
			t.Errorf("Vars %d %d", n, e)
		}
	}
	was := list()
	if !reflect.DeepEqual(l, was) || !reflect.DeepEqual(l[0].Args[:4], was[0].Args[:4]) {
		t.Errorf("it was changed: %v", l)
	}
}
