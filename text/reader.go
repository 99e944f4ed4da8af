package text

import (
	"strings"

	"palisade/api"
	"palisade/spell"
)

// maxText is how many bytes a text may have.
const maxText = 6000

// place in a text: the first byte that can't stand there.
type place int

// reader of a text: all ahead of at was read.
type reader struct {
	text string
	at   int
}

// parse a text by a rule, and check what was read.
func parse[T any](s string, rule func(*reader) T, check func(T) api.Errno) (T, int, api.Errno) {
	var none T
	if len(s) > maxText {
		return none, 0, api.ErrMany
	}
	v, at, e := read(s, rule)
	if e == api.OK {
		e = check(v)
	}
	if e != api.OK {
		return none, at, e
	}
	return v, 0, api.OK
}

// read a text by a rule; ErrForm, if the rule gives up, and at which place.
func read[T any](s string, rule func(*reader) T) (v T, at int, e api.Errno) {
	e = api.ErrForm // till the rule is through: whatever gives up is never taken for OK
	defer func() {
		if p, ok := recover().(place); ok {
			at = int(p)
		}
	}()
	return rule(&reader{text: s}), 0, api.OK
}

// program: clauses, till the text ends.
func (r *reader) program() api.Program {
	var p api.Program
	for r.at < len(r.text) {
		p = append(p, r.clause())
	}
	return p
}

// goals: terms, and nothing behind them.
func (r *reader) goals() []api.Term {
	if r.text == api.NameTrue {
		return nil
	}
	q := r.terms()
	if r.at < len(r.text) {
		r.giveUp()
	}
	return q
}

// clause: a line of a program.
func (r *reader) clause() api.Clause {
	c := api.Clause{Head: r.term()}
	if r.ahead(given[:1]) {
		r.must(given)
		c.Body = r.terms()
	}
	r.must(stop)
	return c
}

// terms: one or more.
func (r *reader) terms() []api.Term {
	l := []api.Term{r.term()}
	for r.ahead(spell.Comma[:1]) {
		r.must(spell.Comma)
		l = append(l, r.term())
	}
	return l
}

// term: a variable, or a name with its arguments.
func (r *reader) term() api.Term {
	if r.ahead(spell.Sign) {
		return api.Term{Var: r.variable()}
	}
	t := api.Term{Name: r.name()}
	if r.ahead(spell.Open) {
		r.must(spell.Open)
		t.Args = r.terms()
		r.must(spell.Shut)
	}
	return t
}

// variable: its number. A nought can't be the first digit, nor can there be a third one.
func (r *reader) variable() int {
	digit := func(b byte) bool { return '0' <= b && b <= '9' }
	r.must(spell.Sign)
	n := int(r.one(func(b byte) bool { return digit(b) && b != '0' }) - '0')
	if r.sees(digit) {
		n = 10*n + int(r.one(digit)-'0')
	}
	return n
}

// name: however long it is.
func (r *reader) name() string {
	if r.ahead(api.NameCut) {
		r.must(api.NameCut)
		return api.NameCut
	}
	letter := func(b byte) bool { return 'a' <= b && b <= 'z' }
	return r.word(letter, func(b byte) bool {
		return letter(b) || '0' <= b && b <= '9' || b == '_'
	})
}

// word: a sign that may be the first, and all behind it that may stand in a word.
func (r *reader) word(first, inner func(byte) bool) string {
	from := r.at
	r.one(first)
	for r.sees(inner) {
		r.at++
	}
	return strings.Clone(r.text[from:r.at]) // so that no name holds on to the whole text
}

// must: just this stands here; sign by sign, because the place is that of the first one that differs.
func (r *reader) must(s string) {
	for i := range len(s) {
		r.one(func(b byte) bool { return b == s[i] })
	}
}

// one byte that may stand here.
func (r *reader) one(may func(byte) bool) byte {
	if !r.sees(may) {
		r.giveUp()
	}
	r.at++
	return r.text[r.at-1]
}

// sees a byte that may stand here.
func (r *reader) sees(may func(byte) bool) bool {
	return r.at < len(r.text) && may(r.text[r.at])
}

// ahead: does s stand here?
func (r *reader) ahead(s string) bool {
	return strings.HasPrefix(r.text[r.at:], s)
}

// giveUp: what stands here can't stand here, or the text ends here.
func (r *reader) giveUp() {
	panic(place(r.at))
}
