package heap_test

import (
	"fmt"
	"math"
	"math/rand"
	"reflect"
	"slices"
	"strings"
	"testing"
	"time"

	"palisade/api"
	"palisade/heap"
	"palisade/text"
)

func ref(n int) api.Cell { return api.Cell{Kind: api.CellRef, N: n} }

func fn(name string, args int) api.Cell { return api.Cell{Kind: api.CellFn, N: args, Name: name} }

// read a term.
func read(s string) api.Term {
	q, _, e := text.ParseGoals(s)
	if e != api.OK || len(q) != 1 {
		panic("no term: " + s)
	}
	return q[0]
}

// show a term, however great it is.
func show(t api.Term) string {
	if t.Var != 0 {
		return fmt.Sprintf("V%d", t.Var)
	}
	var args []string
	for _, a := range t.Args {
		args = append(args, show(a))
	}
	if args == nil {
		return t.Name
	}
	return t.Name + "(" + strings.Join(args, ", ") + ")"
}

// free: a heap of variables.
func free(n int) []api.Cell {
	h := make([]api.Cell, n)
	for i := range h {
		h[i] = ref(i)
	}
	return h
}

// chain: each cell but the last one leads to the next one.
func chain(n int) []api.Cell {
	h := free(n)
	for i := range n - 1 {
		h[i].N++
	}
	return h
}

// nest: a term of so many parts, each but the innermost one within another, behind a heap.
func nest(h []api.Cell, parts int, inner string) []api.Cell {
	for range parts - 1 {
		h = append(h, fn("s", 1), ref(len(h)+2))
	}
	return append(h, fn(inner, 0))
}

// doubled: at 0 a term of 2^(n+1) - 1 parts.
func doubled(n int) []api.Cell {
	var h []api.Cell
	for range n {
		h = append(h, fn("h", 2), ref(len(h)+3), ref(len(h)+3))
	}
	return append(h, fn("a", 0))
}

// wrong heaps, and the error of each.
func wrong() map[string]struct {
	h    []api.Cell
	want api.Errno
} {
	type row = struct {
		h    []api.Cell
		want api.Errno
	}
	loop := chain(api.MaxHeap)
	loop[api.MaxHeap-1].N = 0
	return map[string]row{
		"too many cells":                       {free(api.MaxHeap + 1), api.ErrMany},
		"too many cells, all wrong":            {make([]api.Cell, api.MaxHeap+1), api.ErrMany},
		"a CellRef to no cell":                 {[]api.Cell{ref(1)}, api.ErrNone},
		"a CellRef below 0":                    {[]api.Cell{ref(-1)}, api.ErrNone},
		"a CellRef far off":                    {[]api.Cell{ref(math.MaxInt)}, api.ErrNone},
		"a CellRef far below":                  {[]api.Cell{ref(math.MinInt)}, api.ErrNone},
		"a CellRef with a name":                {[]api.Cell{{Kind: api.CellRef, Name: "a"}}, api.ErrForm},
		"a CellRef to no cell, with a name":    {[]api.Cell{{Kind: api.CellRef, N: 1, Name: "a"}}, api.ErrNone},
		"no name":                              {[]api.Cell{fn("", 0)}, api.ErrForm},
		"a name too long":                      {[]api.Cell{fn("abcdefghi", 0)}, api.ErrForm},
		"a name that begins wrong":             {[]api.Cell{fn("1a", 0)}, api.ErrForm},
		"a name of wrong signs":                {[]api.Cell{fn("aB", 0)}, api.ErrForm},
		"a cut with arguments":                 {[]api.Cell{fn("!", 1), ref(1)}, api.ErrForm},
		"fewer than no arguments":              {[]api.Cell{fn("f", -1)}, api.ErrForm},
		"too many arguments":                   {append([]api.Cell{fn("f", 5)}, free(6)[1:]...), api.ErrForm},
		"too many arguments, and not there":    {[]api.Cell{fn("f", math.MaxInt)}, api.ErrForm},
		"arguments that are not there":         {[]api.Cell{ref(0), fn("f", 2), ref(0)}, api.ErrNone},
		"not there, and those there are wrong": {[]api.Cell{fn("f", 2), fn("a", 0)}, api.ErrNone},
		"an argument that is a CellFn":         {[]api.Cell{fn("f", 2), ref(1), fn("a", 0)}, api.ErrForm},
		"an argument of no kind":               {[]api.Cell{fn("f", 1), {}}, api.ErrForm},
		"no kind":                              {[]api.Cell{{}}, api.ErrForm},
		"a kind too great":                     {[]api.Cell{{Kind: 3, Name: "a"}}, api.ErrForm},
		"a kind below 0":                       {[]api.Cell{{Kind: -1}}, api.ErrForm},
		"the first wrong cell: form":           {[]api.Cell{ref(0), {}, ref(9)}, api.ErrForm},
		"the first wrong cell: none":           {[]api.Cell{ref(0), ref(9), {}}, api.ErrNone},
		"two in a circle":                      {[]api.Cell{ref(1), ref(0)}, api.ErrState},
		"three in a circle, reached by one":    {[]api.Cell{ref(2), ref(1), ref(3), ref(4), ref(2)}, api.ErrState},
		"a term within itself":                 {[]api.Cell{fn("f", 1), ref(0)}, api.ErrState},
		"within itself by the last argument":   {[]api.Cell{fn("f", 4), ref(1), ref(2), ref(5), ref(0), ref(5)}, api.ErrState},
		"two terms within each other":          {[]api.Cell{fn("f", 1), ref(2), fn("g", 1), ref(0)}, api.ErrState},
		"an argument that leads to its name":   {[]api.Cell{ref(2), fn("f", 2), ref(2), ref(1)}, api.ErrState},
		"a circle, and a cell that is wrong":   {[]api.Cell{ref(1), ref(0), {}}, api.ErrForm},
		"all cells in a circle":                {loop, api.ErrState},
	}
}

func TestCheck(t *testing.T) {
	for about, c := range wrong() {
		if e := heap.Check(c.h); e != c.want {
			t.Errorf("E1: %s: error %d, and must be %d", about, e, c.want)
		}
	}
	for about, h := range map[string][]api.Cell{
		"no cells":                    nil,
		"a variable":                  {ref(0)},
		"a name":                      {fn("a", 0)},
		"the longest name":            {fn("abcd_f09", 0)},
		"a cut":                       {fn("!", 0)},
		"as many arguments as may be": append([]api.Cell{fn("f", 4)}, free(5)[1:]...),
		"an argument that is a variable elsewhere": {fn("f", 1), ref(2), ref(2)},
		"ahead and back":                 {ref(3), ref(0), fn("f", 1), ref(4), fn("a", 0)},
		"an argument alone":              {ref(2), fn("f", 1), ref(2)},
		"what is shared is no circle":    {fn("h", 2), ref(3), ref(3), fn("g", 1), ref(5), ref(5)},
		"as many cells as may be":        free(api.MaxHeap),
		"all of them in a line":          chain(api.MaxHeap),
		"all of them in one another":     nest([]api.Cell{fn("a", 0)}, api.MaxHeap/2, "b"),
		"more parts than can be counted": doubled(300),
	} {
		if e := heap.Check(h); e != api.OK {
			t.Errorf("E1: %s: error %d", about, e)
		}
	}
}

// calls: the errors of all calls but Check, with the same cell; each must answer nothing else with one.
func calls(t *testing.T, h []api.Cell, at int, x api.Term) [4]api.Errno {
	n, d := heap.Deref(h, at)
	l, vars, r := heap.Read(h, at)
	built, where, all, b := heap.Build(h, x)
	same, bound, ok, work, u := heap.Unify(h, at, at)
	if d != api.OK && n != 0 || r != api.OK && !(reflect.DeepEqual(l, api.Term{}) && len(vars) == 0) ||
		b != api.OK && (len(built) > 0 || where != 0 || len(all) > 0) || u != api.OK && (len(same) > 0 || len(bound) > 0 || ok || work != 0) {
		t.Errorf("P1: something comes with an error: %d; %v %v; %v %d %v; %v %v %v %d", n, l, vars, built, where, all, same, bound, ok, work)
	}
	return [4]api.Errno{d, r, b, u}
}

func TestErrors(t *testing.T) {
	for about, c := range wrong() {
		for _, at := range []int{-1, 0, len(c.h)} {
			if got, want := calls(t, c.h, at, api.Term{}), [4]api.Errno{c.want, c.want, c.want, c.want}; got != want {
				t.Errorf("E1: %s, cell %d: errors %v, and must be %v", about, at, got, want)
			}
		}
	}
	for _, h := range [][]api.Cell{nil, {ref(0)}, {fn("f", 1), ref(1)}} {
		for _, at := range []int{-1, len(h), math.MaxInt, math.MinInt} {
			if got, want := calls(t, h, at, api.Term{Var: 13}), [4]api.Errno{api.ErrNone, api.ErrNone, api.ErrRange, api.ErrNone}; got != want {
				t.Errorf("E1, E3: cell %d of %v: errors %v, and must be %v", at, h, got, want)
			}
			_, _, _, _, a := heap.Unify(h, at, 0)
			_, _, _, _, b := heap.Unify(h, 0, at)
			if a != api.ErrNone || b != api.ErrNone {
				t.Errorf("E1: cell %d of %v: errors %d and %d of Unify", at, h, a, b)
			}
		}
	}
}

func TestDeref(t *testing.T) {
	h := []api.Cell{ref(1), ref(4), fn("f", 1), ref(0), ref(4), ref(2), ref(5)}
	for at, want := range []int{4, 4, 2, 4, 4, 2, 2} {
		if n, e := heap.Deref(h, at); n != want || e != api.OK {
			t.Errorf("E2: cell %d leads to %d, error %d, and must lead to %d", at, n, e, want)
		}
	}
	if n, e := heap.Deref(chain(api.MaxHeap), 0); n != api.MaxHeap-1 || e != api.OK {
		t.Errorf("E2: %d, error %d", n, e)
	}
}

func TestRead(t *testing.T) {
	h := []api.Cell{fn("f", 4), ref(7), ref(2), ref(5), ref(1), fn("g", 2), ref(8), ref(8), ref(8), fn("k", 2), ref(0), ref(2), fn("!", 0), ref(12)}
	for _, c := range []struct {
		at    int
		want  string
		cells []int
	}{
		{0, "f(V1, V2, g(V1, V1), V1)", []int{8, 2}},
		{1, "V1", []int{8}},
		{2, "V1", []int{2}},
		{5, "g(V1, V1)", []int{8}},
		{9, "k(f(V1, V2, g(V1, V1), V1), V2)", []int{8, 2}},
		{13, "!", nil},
	} {
		x, l, e := heap.Read(h, c.at)
		if show(x) != c.want || !slices.Equal(l, c.cells) || e != api.OK {
			t.Errorf("E2: at %d: %s %v, error %d, and must be %s %v", c.at, show(x), l, e, c.want, c.cells)
		}
	}
}

func TestReadGreat(t *testing.T) {
	for parts, want := range map[int]api.Errno{1: api.OK, api.MaxShow - 1: api.OK, api.MaxShow: api.OK, api.MaxShow + 1: api.ErrMany, 100000: api.ErrMany} {
		x, _, e := heap.Read(nest(nil, parts, "a"), 0)
		if e != want || e == api.OK && strings.Count(show(x), "s(") != parts-1 {
			t.Errorf("E2: %d parts: error %d, and must be %d", parts, e, want)
		}
	}
	if _, _, e := heap.Read(doubled(6), 0); e != api.OK { // 127 parts
		t.Errorf("E2: error %d", e)
	}
	for _, n := range []int{7, 60, 1000} {
		if _, _, e := heap.Read(doubled(n), 0); e != api.ErrMany {
			t.Errorf("E2, P1: doubled %d times: error %d", n, e)
		}
	}
	var h []api.Cell
	for range 33 {
		n := len(h)
		h = append(h, fn("f", 4), ref(n+1), ref(n+2), ref(n+3), ref(n+5))
	}
	h = append(h, fn("a", 0))
	x, l, e := heap.Read(h, 0)
	if e != api.OK || len(l) != 99 || l[98] != 163 || !strings.Contains(show(x), "V97, V98, V99, a)") {
		t.Errorf("E2: %d variables, error %d: %v", len(l), e, x)
	}
}

func TestBuild(t *testing.T) {
	old := []api.Cell{ref(1), ref(1), fn("f", 2), ref(0), ref(5), fn("a", 0)}
	for _, h := range [][]api.Cell{nil, old} {
		for _, c := range []struct{ term, want string }{
			{"V1", "V1"}, {"V12", "V1"}, {"a", "a"}, {"!", "!"},
			{"f(V1, V2, V1)", "f(V1, V2, V1)"},
			{"f(V9, g(V3, V9), h(V3), V1)", "f(V1, g(V2, V1), h(V2), V3)"},
			{"h(f(V12), b)", "h(f(V1), b)"},
			{"f(V12, V11, V10, f(V9, V8, V7, f(V6, V5, V4, f(V3, V2, V1))))", "f(V1, V2, V3, f(V4, V5, V6, f(V7, V8, V9, f(V10, V11, V12))))"},
			{strings.Repeat("s(", 59) + "a" + strings.Repeat(")", 59), strings.Repeat("s(", 59) + "a" + strings.Repeat(")", 59)},
		} {
			x := read(c.term)
			built, at, vars, e := heap.Build(h, x)
			if e != api.OK || heap.Check(built) != api.OK || len(built) <= len(h) || !slices.Equal(built[:len(h)], h) {
				t.Fatalf("E3: %s behind %v: %v, error %d", c.term, h, built, e)
			}
			got, l, e := heap.Read(built, at)
			if show(got) != c.want || e != api.OK {
				t.Errorf("E3: %s: %s, error %d, and must be %s", c.term, show(got), e, c.want)
			}
			if len(vars) != api.MaxVar {
				t.Fatalf("E3: %s: cells of %d variables", c.term, len(vars))
			}
			for i, at := range vars {
				stands := strings.Contains(c.term+",", fmt.Sprintf("V%d,", i+1)) || strings.Contains(c.term, fmt.Sprintf("V%d)", i+1))
				if !stands && at != -1 || stands && (!slices.Contains(l, at) || built[at] != ref(at) || at < len(h)) {
					t.Errorf("E3: %s: V%d is at %d, of %v in %v", c.term, i+1, at, l, built)
				}
			}
		}
	}
}

func TestBuildErrors(t *testing.T) {
	full := free(api.MaxHeap)
	for _, c := range []struct {
		about string
		h     []api.Cell
		term  api.Term
		want  api.Errno
	}{
		{"no term", nil, api.Term{}, api.ErrForm},
		{"a variable out of range", nil, api.Term{Var: 13}, api.ErrRange},
		{"as many parts as may be", nil, read("f(" + strings.Repeat("s(", 57) + "a" + strings.Repeat(")", 57) + ", a)"), api.OK},
		{"one part more", nil, api.Term{Name: "s", Args: []api.Term{read("f(" + strings.Repeat("s(", 57) + "a" + strings.Repeat(")", 57) + ", a)")}}, api.ErrMany},
		{"no term on a full heap", full, api.Term{}, api.ErrForm},
		{"a name on a full heap", full, read("a"), api.ErrMany},
		{"a variable on a full heap", full, read("V1"), api.ErrMany},
	} {
		if _, _, _, e := heap.Build(c.h, c.term); e != c.want {
			t.Errorf("E3: %s: error %d, and must be %d", c.about, e, c.want)
		}
	}
	for _, c := range []struct {
		term string
		room int
	}{{"a", 1}, {"V1", 1}, {"f(a)", 3}, {"f(a, g(b), c)", 4 + 1 + 2 + 1 + 1}, {"f(V1, V2, V1)", 4 + 2}} {
		h, _, _, e := heap.Build(free(api.MaxHeap-c.room), read(c.term))
		if e != api.OK || len(h) != api.MaxHeap {
			t.Errorf("E3: %s behind all cells but %d: %d cells, error %d", c.term, c.room, len(h), e)
		}
		if _, _, _, e = heap.Build(free(api.MaxHeap-c.room+1), read(c.term)); e != api.ErrMany {
			t.Errorf("E3: %s where one cell less is left: error %d", c.term, e)
		}
	}
}

func TestUnify(t *testing.T) {
	for _, c := range []struct {
		about string
		h     []api.Cell
		a, b  int
		want  []api.Cell // none, if it can't be
		bound []int
		work  int
	}{
		{"the document's example", []api.Cell{fn("f", 2), ref(1), ref(6), fn("f", 2), ref(7), ref(5), fn("a", 0), fn("b", 0)}, 0, 3,
			[]api.Cell{fn("f", 2), ref(7), ref(6), fn("f", 2), ref(7), ref(6), fn("a", 0), fn("b", 0)}, []int{1, 5}, 5},
		{"the same variable", []api.Cell{ref(1), ref(1)}, 0, 1, []api.Cell{ref(1), ref(1)}, nil, 1},
		{"the first one is less", []api.Cell{ref(0), ref(1)}, 0, 1, []api.Cell{ref(0), ref(0)}, []int{1}, 2},
		{"the first one is greater", []api.Cell{ref(0), ref(1)}, 1, 0, []api.Cell{ref(0), ref(0)}, []int{1}, 2},
		{"where they lead to is told apart, not where they are", []api.Cell{ref(3), ref(2), ref(2), ref(3)}, 0, 1, []api.Cell{ref(3), ref(2), ref(2), ref(2)}, []int{3}, 2},
		{"a variable, and a name", []api.Cell{ref(0), fn("a", 0)}, 0, 1, []api.Cell{ref(1), fn("a", 0)}, []int{0}, 2},
		{"a name, and a variable", []api.Cell{fn("a", 0), ref(1)}, 0, 1, []api.Cell{fn("a", 0), ref(0)}, []int{1}, 2},
		{"the same name twice", []api.Cell{fn("a", 0), fn("a", 0)}, 0, 1, []api.Cell{fn("a", 0), fn("a", 0)}, nil, 1},
		{"another name", []api.Cell{fn("a", 0), fn("b", 0)}, 0, 1, nil, nil, 1},
		{"more arguments", []api.Cell{fn("a", 0), fn("a", 1), ref(2)}, 0, 1, nil, nil, 1},
		{"a term with itself: each pair", doubled(3), 0, 0, doubled(3), nil, 15},
		{"within itself", []api.Cell{fn("f", 2), ref(3), ref(2), ref(3)}, 0, 3, nil, nil, 3},
		{"within itself, turned", []api.Cell{fn("f", 2), ref(3), ref(2), ref(3)}, 3, 0, nil, nil, 3},
		{"within itself by what was bound", []api.Cell{fn("f", 2), ref(1), ref(2), fn("f", 2), ref(6), ref(8), fn("s", 1), ref(2), fn("s", 1), ref(1)}, 0, 3, nil, nil, 8},
		{"what was bound is taken back", []api.Cell{fn("f", 2), ref(1), ref(6), fn("f", 2), ref(4), ref(7), fn("a", 0), fn("b", 0)}, 0, 3, nil, nil, 4},
		{"one is bound, the others are the same already", []api.Cell{fn("f", 3), ref(4), ref(7), ref(8), ref(4), fn("f", 3), ref(6), ref(7), ref(8)}, 0, 5,
			[]api.Cell{fn("f", 3), ref(4), ref(7), ref(8), ref(4), fn("f", 3), ref(4), ref(7), ref(8)}, []int{6}, 2 + 1 + 1 + 1},
		{"one after the other, from the left", []api.Cell{fn("f", 3), ref(3), ref(2), ref(3), fn("f", 3), ref(5), ref(6), ref(2)}, 0, 4,
			[]api.Cell{fn("f", 3), ref(3), ref(2), ref(2), fn("f", 3), ref(3), ref(2), ref(2)}, []int{5, 6, 3}, 7},
	} {
		h, bound, ok, work, e := heap.Unify(c.h, c.a, c.b)
		if ok != (c.want != nil) || !slices.Equal(h, c.want) || !slices.Equal(bound, c.bound) || work != c.work || e != api.OK {
			t.Errorf("E4: %s: %v %v %v, work %d, error %d, and must be %v %v, work %d", c.about, h, bound, ok, work, e, c.want, c.bound, c.work)
		}
	}
}

func TestUnifyWork(t *testing.T) {
	two := func(parts int, a, b string) []api.Cell { return nest(nest([]api.Cell{ref(0)}, parts, a), parts, b) }
	for _, c := range []struct {
		about string
		h     []api.Cell
		a, b  int
		ok    bool
		work  int
		want  api.Errno
	}{
		{"as many pairs as may be", two(api.MaxWork, "a", "a"), 1, 2 * api.MaxWork, true, api.MaxWork, api.OK},
		{"one more", two(api.MaxWork+1, "a", "a"), 1, 2*api.MaxWork + 2, false, 0, api.ErrMany},
		{"the last one is not the same", two(api.MaxWork, "a", "b"), 1, 2 * api.MaxWork, false, api.MaxWork, api.OK},
		{"one too late is not the same", two(api.MaxWork+1, "a", "b"), 1, 2*api.MaxWork + 2, false, 0, api.ErrMany},
		{"a variable, and as many parts as may be", two(api.MaxWork-1, "a", "a"), 0, 1, true, api.MaxWork, api.OK},
		{"a variable, and one more", two(api.MaxWork, "a", "a"), 0, 1, false, 0, api.ErrMany},
		{"more than an answer may have", two(api.MaxShow+1, "a", "a"), 0, 1, true, api.MaxShow + 2, api.OK},
		{"more than can be counted", doubled(1000), 0, 0, false, 0, api.ErrMany},
	} {
		h, bound, ok, work, e := heap.Unify(c.h, c.a, c.b)
		if ok != c.ok || work != c.work || e != c.want || ok != (len(h) > 0) || !ok && len(bound) > 0 {
			t.Errorf("E4: %s: %v, work %d, error %d, and must be %v, work %d, error %d; %d cells, %d bound", c.about, ok, work, e, c.ok, c.work, c.want, len(h), len(bound))
		}
	}
}

// TestLineToWhatIsBound: what a long line leads to becomes something while the line is gone through twice.
func TestLineToWhatIsBound(t *testing.T) {
	for _, c := range []struct {
		last  string // the second argument of f(a, last), which is held against f(V1, V1)
		bound []int
		work  int
	}{{"a", []int{8}, 4}, {"b", nil, 4}} {
		h := []api.Cell{fn("f", 2), ref(9), ref(10), fn("f", 2), ref(6), ref(7), fn("a", 0), fn(c.last, 0), ref(8)}
		for len(h) < 99 {
			h = append(h, ref(len(h)+1))
		}
		h = append(h, ref(8))
		after, bound, ok, work, e := heap.Unify(h, 0, 3)
		if ok != (c.bound != nil) || !slices.Equal(bound, c.bound) || work != c.work || e != api.OK || ok && after[8] != ref(6) {
			t.Errorf("E4: %v %v, work %d, error %d, and must be %v, work %d", ok, bound, work, e, c.bound, c.work)
		}
	}
}

// TestLongLines: each part of a term leads through all cells of a heap: that is not gone through each time, or it would take minutes.
func TestLongLines(t *testing.T) {
	begin := time.Now()
	for _, n := range []int{6, 10} { // 127 and 2047 parts
		h := doubled(n)
		last := len(h) - 1
		h = append(h, make([]api.Cell, api.MaxHeap-len(h))...)
		line := rand.New(rand.NewSource(1)).Perm(api.MaxHeap - last - 1)
		h[last] = ref(last + 1 + line[0])
		for i, at := range line[:len(line)-1] {
			h[last+1+at] = ref(last + 1 + line[i+1])
		}
		h[last+1+line[len(line)-1]] = fn("a", 0)
		_, _, ok, work, e := heap.Unify(h, 0, 0)
		if want := 2<<n - 1; !ok || work != want || e != api.OK {
			t.Errorf("P1: %v, work %d, error %d, and must be work %d", ok, work, e, want)
		}
		if _, _, e := heap.Read(h, 0); (e == api.ErrMany) != (n == 10) {
			t.Errorf("P1: doubled %d times: error %d of Read", n, e)
		}
	}
	if took := time.Since(begin); took > time.Minute/4 {
		t.Errorf("P1: it took %v", took)
	}
}

func TestOwnMemory(t *testing.T) {
	spare := append(make([]api.Cell, 0, 20), fn("f", 2), ref(3), ref(2), ref(3), fn("a", 0))
	for i := range spare[:20][5:] {
		spare[:20][5+i].Name = "spare"
	}
	before := slices.Clone(spare[:20])
	x := read("f(V1, g(V2, V1))")
	built, at, vars, _ := heap.Build(spare, x)
	same, bound, ok, _, _ := heap.Unify(spare, 3, 2)
	l, where, _ := heap.Read(spare, 0)
	if !slices.Equal(spare[:20], before) || show(x) != "f(V1, g(V2, V1))" {
		t.Fatal("P2: what was handed in has changed")
	}
	told := func() string { return fmt.Sprint(built, at, vars, same, bound, ok, l, where) }
	want := told()
	clear(spare[:20])
	x.Args[0].Var, x.Args[1].Args[0].Name = 7, "changed"
	if told() != want {
		t.Error("P2: a later change of what was handed in is seen")
	}
	clear(vars[:cap(vars)])
	clear(bound[:cap(bound)])
	clear(where[:cap(where)])
	if strings.Contains(fmt.Sprint(built, same, l), "{0 0 }") || fmt.Sprint(l) != "{0 f [{1  []} {2  []}]}" {
		t.Error("P2: lists of an answer share memory")
	}
}
