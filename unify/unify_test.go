package unify_test

import (
	"fmt"
	"math/rand"
	"reflect"
	"slices"
	"strings"
	"testing"

	"palisade/api"
	"palisade/text"
	"palisade/unify"
)

// read a term.
func read(s string) api.Term {
	q, _, e := text.ParseGoals(s)
	if e != api.OK || len(q) != 1 {
		panic("no term: " + s)
	}
	return q[0]
}

// show what variables are that are something else than themselves.
func show(l []api.Term) string {
	var out []string
	for i, t := range l {
		if t.Var != i+1 {
			s, _ := text.Goals([]api.Term{t})
			out = append(out, fmt.Sprintf("V%d = %s", i+1, s))
		}
	}
	return strings.Join(out, "; ")
}

func TestUnify(t *testing.T) {
	for _, c := range []struct {
		about, s, t string
		want        string // "no", if it can't be
		work        int
	}{
		{"C1: the document's example", "f(V2, V3)", "f(V1, a)", "V2 = V1; V3 = a", 5},
		{"C1: the same name", "a", "a", "", 1},
		{"C1: another name", "a", "b", "no", 1},
		{"C1: more arguments", "f(a)", "f(a, a)", "no", 1},
		{"C1: a name with arguments, one without", "f(a)", "f", "no", 1},
		{"C1: the same variable", "V3", "V3", "", 1},
		{"C1: the first one is less", "V1", "V2", "V2 = V1", 2},
		{"C1: the first one is greater", "V2", "V1", "V2 = V1", 2},
		{"C1: the greatest variable", "V12", "a", "V12 = a", 2},
		{"C1: three that are the same", "f(V3, V3)", "f(V2, V1)", "V2 = V1; V3 = V1", 5},
		{"C1: the least one comes last", "f(V3, V2, V1)", "f(V4, V3, V4)", "V2 = V1; V3 = V1; V4 = V1", 7},
		{"C1: two classes become one", "f(V1, V3, V4)", "f(V2, V4, V2)", "V2 = V1; V3 = V1; V4 = V1", 7},
		{"C1: a class becomes something", "f(V1, V2, V3)", "f(V2, V3, g(V4))", "V1 = g(V4); V2 = g(V4); V3 = g(V4)", 8},
		{"C1: what stands within is something later", "f(V1, V2)", "f(g(V2, V2), a)", "V1 = g(a, a); V2 = a", 7},
		{"C1: the least one stands within", "f(V3, V2)", "f(g(V2), V1)", "V2 = V1; V3 = g(V1)", 6},
		{"C1: within itself", "V1", "f(V1)", "no", 3},
		{"C1: within itself, turned", "f(V1)", "V1", "no", 3},
		{"C1: within itself by way of another", "f(V1, V2)", "f(g(V2), g(V1))", "no", 8},
		{"C1: within itself by what it is the same as", "f(V1, V1)", "f(V2, g(V2))", "no", 6},
		{"C1: no meaning in names", "f(!, eq(V1, true))", "f(!, eq(fail, V2))", "V1 = fail; V2 = true", 7},
		{"C2: of a variable the other's parts, ahead of its arguments", "V1", "f(g(a), V1, b)", "no", 5},
		{"C2: till it is that variable", "V1", "f(V1, a, b, c)", "no", 3},
		{"C2: all parts, if it is not there", "V1", "f(g(a), V2, b)", "V1 = f(g(a), V2, b)", 6},
		{"C2: parts as they are, through and through", "f(V1, V2, V3)", "f(g(a), h(V1, V1), k(V2))", "V1 = g(a); V2 = h(g(a), g(a)); V3 = k(h(g(a), g(a)))", 17},
		{"C2: a pair as it is, through and through", "f(V1, V1)", "f(g(a, b), g(a, V2))", "V1 = g(a, b); V2 = b", 9},
		{"C2: of equal ones each pair", "f(g(a, b), c)", "f(g(a, b), c)", "", 5},
		{"C2: a name that fails ends it", "f(a, b, c)", "f(a, c, d)", "no", 3},
		{"C2: a part that fails ends it", "f(g(a), V1)", "f(g(b), c)", "no", 3},
		{"C2: from the left", "f(V1, a)", "f(g(b, c), b)", "no", 6},
	} {
		l, ok, work, e := unify.Unify(read(c.s), read(c.t))
		got := "no"
		if ok {
			got = show(l)
		}
		if got != c.want || work != c.work || e != api.OK {
			t.Errorf("%s: %q, work %d, error %d, and must be %q, %d, 0", c.about, got, work, e, c.want, c.work)
		}
		if want := api.MaxVar; ok && len(l) != want || !ok && len(l) != 0 {
			t.Errorf("%s: %d terms", c.about, len(l))
		}
	}
}

// pairs of terms that are looked at one behind the other.
type pairs [][2]string

// terms: two terms whose arguments are these pairs (names that hold 3 of them, and one that holds the rest); the last pair is that of both ends.
func (p pairs) terms(s, t string) (api.Term, api.Term) {
	for end := len(p); end > 0; end = (end - 1) / 3 * 3 {
		var a, b []string
		for _, x := range p[(end-1)/3*3 : end] {
			a, b = append(a, x[0]), append(b, x[1])
		}
		s = "l(" + strings.Join(append(a, s), ", ") + ")"
		t = "l(" + strings.Join(append(b, t), ", ") + ")"
	}
	return read(s), read(t)
}

// great: V2 to V5 become terms of 5, 21, 85 and 171 parts, by the work of that.
func great() (pairs, int) {
	return pairs{{"V2", "k(V1, V1, V1, V1)"}, {"V3", "k(V2, V2, V2, V2)"}, {"V4", "k(V3, V3, V3, V3)"}, {"V5", "k(V4, V4)"}}, 6 + 22 + 86 + 172
}

// busy: pairs whose work, with the names that hold them and the pair of their ends, is just so much.
func busy(work int) pairs {
	p, done := great()
	done++
	for _, c := range []struct{ v, cost int }{{5, 171}, {4, 85}, {3, 21}, {2, 5}, {1, 1}} {
		for {
			names := len(p)/3 + 1
			if done+c.cost+names > work {
				break
			}
			v := fmt.Sprintf("V%d", c.v)
			p = append(p, [2]string{v, v})
			done += c.cost
		}
	}
	return p
}

func TestWorkLimit(t *testing.T) {
	for _, c := range []struct {
		about     string
		work      int
		one, next string
		ok        bool
		told      int
		e         api.Errno
	}{
		{"C2: a little less than may be", api.MaxWork - 1, "e", "e", true, api.MaxWork - 1, api.OK},
		{"C2: as much as may be", api.MaxWork, "e", "e", true, api.MaxWork, api.OK},
		{"C2: more", api.MaxWork + 1, "e", "e", false, 0, api.ErrMany},
		{"C2: false by the last that may be looked at", api.MaxWork, "e", "d", false, api.MaxWork, api.OK},
		{"C2: false by what may not be looked at any more", api.MaxWork + 1, "e", "d", false, 0, api.ErrMany},
	} {
		a, b := busy(c.work).terms(c.one, c.next)
		l, ok, work, e := unify.Unify(a, b)
		if ok != c.ok || work != c.told || e != c.e || ok != (len(l) == api.MaxVar) {
			t.Errorf("%s: %d terms, %v, work %d, error %d", c.about, len(l), ok, work, e)
		}
	}
}

func TestShowLimit(t *testing.T) {
	for _, c := range []struct {
		about, last string
		e           api.Errno
	}{
		{"C3: as many parts as may be", "k(V5, V3, V2, s(a))", api.OK},
		{"C3: one part more", "k(V5, V3, V2, s(s(a)))", api.ErrMany},
		{"C3: as many parts as may be, variables too", "k(V5, V3, V2, s(V7))", api.OK},
		{"C3: one part more, a variable", "k(V5, V3, V2, s(s(V7)))", api.ErrMany},
	} {
		p, _ := great()
		a, b := append(p, [2]string{"V6", c.last}).terms("e", "e")
		l, ok, work, e := unify.Unify(a, b)
		if e != c.e || ok != (e == api.OK) || (work == 0) != (e != api.OK) || (len(l) == 0) != (e != api.OK) {
			t.Errorf("%s: %d terms, %v, work %d, error %d", c.about, len(l), ok, work, e)
		}
	}
	p, _ := great()
	a, b := append(p, [2]string{"V6", "k(V5, V5)"}).terms("e", "d")
	if _, ok, work, e := unify.Unify(a, b); ok || work == 0 || e != api.OK {
		t.Errorf("C3: too great, but false: %v, work %d, error %d", ok, work, e)
	}
}

func TestErrors(t *testing.T) {
	endless := make([]api.Term, 1)
	endless[0] = api.Term{Name: "s", Args: endless}
	right := api.Term{Name: "a"}
	for _, c := range []struct {
		about string
		s, t  api.Term
		e     api.Errno
	}{
		{"C3: the first one is wrong", api.Term{}, right, api.ErrForm},
		{"C3: the second one is wrong", right, api.Term{}, api.ErrForm},
		{"C3: the first one ahead of the second", api.Term{Var: 13}, api.Term{}, api.ErrRange},
		{"C3: the second one is out of range", right, api.Term{Var: -1}, api.ErrRange},
		{"C3: too many arguments", right, api.Term{Name: "f", Args: make([]api.Term, 61)}, api.ErrMany},
		{"P1: a term within itself", endless[0], endless[0], api.ErrMany},
		{"P1: a term within itself, second", right, endless[0], api.ErrMany},
	} {
		l, ok, work, e := unify.Unify(c.s, c.t)
		if len(l) != 0 || ok || work != 0 || e != c.e {
			t.Errorf("%s: %v, %v, work %d, error %d, and must be error %d alone", c.about, l, ok, work, e, c.e)
		}
	}
}

// drawn: a term of at most that depth.
func drawn(r *rand.Rand, depth, vars int) api.Term {
	if n := r.Intn(6); n < 2 || depth == 0 && n < 4 {
		return api.Term{Var: 1 + r.Intn(vars)}
	}
	t := api.Term{Name: []string{"a", "f", "g"}[r.Intn(3)]}
	if depth > 0 && t.Name != "a" {
		for range 1 + r.Intn(3) {
			t.Args = append(t.Args, drawn(r, depth-1, vars))
		}
	}
	return t
}

// TestHeldAgainstReplacing: terms that are drawn are made the same by plain replacing, too, with the same work.
func TestHeldAgainstReplacing(t *testing.T) {
	r := rand.New(rand.NewSource(3))
	seen := map[string]int{}
	for range 20000 {
		vars := 1 + r.Intn(api.MaxVar)
		a, b := drawn(r, 1+r.Intn(3), vars), drawn(r, 1+r.Intn(3), vars)
		switch r.Intn(4) {
		case 0: // alike at first, so that much is looked at
			b = changed(r, a, vars)
		case 1:
			a, b = grown(r)
		}
		l, ok, work, e := unify.Unify(a, b)
		w, wok, wwork, we := replacing(a, b)
		if ok != wok || work != wwork || e != we || show(l) != show(w) {
			t.Fatalf("C1, C2, C3: of %v and %v: %v, %v, %d, %d, and must be %v, %v, %d, %d", a, b, show(l), ok, work, e, show(w), wok, wwork, we)
		}
		seen[fmt.Sprint(ok, e)]++
	}
	if seen["true 0"] < 2000 || seen["false 0"] < 2000 || seen["false 2"] < 100 {
		t.Errorf("what was drawn is too much alike: %v", seen)
	}
}

// grown: two terms by which variables become great, in whatever order.
func grown(r *rand.Rand) (api.Term, api.Term) {
	var p pairs
	top := 4 + r.Intn(8)
	for n := 2; n <= top; n++ {
		p = append(p, [2]string{fmt.Sprintf("V%d", n), fmt.Sprintf("k(V%d, V%d)", 1+r.Intn(n-1), n-1)})
	}
	r.Shuffle(len(p), func(i, k int) { p[i], p[k] = p[k], p[i] })
	return p.terms("V12", []string{"V1", "V6", "V11", "a"}[r.Intn(4)])
}

// changed: a term in which some parts are variables.
func changed(r *rand.Rand, t api.Term, vars int) api.Term {
	if r.Intn(4) == 0 {
		return api.Term{Var: 1 + r.Intn(vars)}
	}
	c := api.Term{Var: t.Var, Name: t.Name}
	for _, a := range t.Args {
		c.Args = append(c.Args, changed(r, a, vars))
	}
	return c
}

// put what variables are into a term.
func put(l []api.Term, t api.Term) api.Term {
	if t.Var != 0 {
		return l[t.Var-1]
	}
	c := api.Term{Name: t.Name}
	for _, a := range t.Args {
		c.Args = append(c.Args, put(l, a))
	}
	return c
}

// TestMadeSame: what is put in makes both the same, and a way to make both the same that was chosen first is made of it.
func TestMadeSame(t *testing.T) {
	r := rand.New(rand.NewSource(4))
	for range 20000 {
		way := make([]api.Term, api.MaxVar)
		for i := range way {
			way[i] = put(slices.Repeat([]api.Term{{Name: "b"}}, api.MaxVar), drawn(r, 2, api.MaxVar))
		}
		a := drawn(r, 2, api.MaxVar)
		b := hidden(r, put(way, a), way)
		l, ok, _, e := unify.Unify(a, b)
		if e == api.ErrMany {
			continue
		}
		if !ok || e != api.OK {
			t.Fatalf("C4: %v and %v can be made the same: %v, %d", a, b, ok, e)
		}
		if !reflect.DeepEqual(put(l, a), put(l, b)) {
			t.Fatalf("C4: %v and %v are not the same by %v", a, b, l)
		}
		for i, is := range l {
			if !reflect.DeepEqual(put(l, is), is) {
				t.Fatalf("C1: in %v a variable stands that is something else: %v", is, l)
			}
			if !reflect.DeepEqual(put(way, is), way[i]) {
				t.Fatalf("C4: %v is not made of %v", way, l)
			}
		}
	}
}

// hidden: a term in which some parts are a variable that is just that.
func hidden(r *rand.Rand, t api.Term, way []api.Term) api.Term {
	for i, w := range way {
		if r.Intn(3) == 0 && reflect.DeepEqual(w, t) {
			return api.Term{Var: i + 1}
		}
	}
	c := api.Term{Name: t.Name}
	for _, a := range t.Args {
		c.Args = append(c.Args, hidden(r, a, way))
	}
	return c
}

// lists: all lists of arguments in terms.
func lists(terms []api.Term) [][]api.Term {
	out := [][]api.Term{terms}
	for _, t := range terms {
		if len(t.Args) > 0 {
			out = append(out, lists(t.Args)...)
		}
	}
	return out
}

func TestOwnMemory(t *testing.T) {
	spare := []api.Term{read("g(V2, V2)"), read("V3"), read("spare")}
	a := api.Term{Name: "f", Args: spare[:2]}
	b := read("f(V1, h(V1, k(a, V1)))")
	before := fmt.Sprint(a, b, spare)
	l, ok, work, e := unify.Unify(a, b)
	if !ok || e != api.OK {
		t.Fatal(ok, e)
	}
	want := fmt.Sprint(l)
	for _, list := range lists(l) { // each list alone, to its whole room: no other may change
		kept := slices.Clone(list)
		full := list[:cap(list)]
		rest := slices.Clone(full)
		for i := range full {
			full[i] = api.Term{Name: "x"}
		}
		if fmt.Sprint(a, b, spare) != before {
			t.Fatal("P2: an answer shares memory with what was handed in")
		}
		if n := strings.Count(fmt.Sprint(l), "{0 x []}"); n != len(list) {
			t.Fatalf("P2: %d parts of the answer changed by a list of %d", n, len(list))
		}
		copy(full, rest)
		copy(list, kept)
	}
	spare[0].Args[0].Var = 5
	if fmt.Sprint(l) != want {
		t.Error("P2: a later change of what was handed in is seen")
	}
	spare[0].Args[0].Var = 2
	m, _, again, _ := unify.Unify(a, b)
	if fmt.Sprint(m) != want || again != work {
		t.Error("P3: it is not the same each time")
	}
}
