package match_test

import (
	"math"
	"slices"
	"testing"

	"lontar/api"
	"lontar/match"
	"lontar/rewrite"
	"lontar/trie"
)

func units(us ...int) []int { return us }

func one(in, out []int) api.Rule { return api.Rule{In: in, Out: out} }

func single(in, out int) api.Rule { return one(units(in), units(out)) }

// good is a token of a rule, bad one of a unit that is not mapped.
func good(at, size int, out ...int) api.Token { return api.Token{At: at, Len: size, Out: out} }

func bad(at int) api.Token { return api.Token{At: at, Len: 1, Err: api.ErrMap} }

// bads are n tokens of units that are not mapped, from at on.
func bads(at, n int) []api.Token {
	var ts []api.Token
	for k := range n {
		ts = append(ts, bad(at+k))
	}
	return ts
}

func list(ts ...api.Token) []api.Token { return ts }

func same(a, b []api.Token) bool {
	return slices.EqualFunc(a, b, func(x, y api.Token) bool {
		return x.At == y.At && x.Len == y.Len && x.Err == y.Err && slices.Equal(x.Out, y.Out)
	})
}

// of is the trie of rules that are valid.
func of(t *testing.T, rs ...api.Rule) *trie.Trie {
	t.Helper()
	x, e := trie.Of(rs)
	if x == nil || e != 0 {
		t.Fatalf("Of %v is %v, %d", rs, x, e)
	}
	return x
}

// end stands among units for a call of End.
const end = math.MinInt + 1

// step is one call: of End, or of Put with a unit.
func step(m *match.Match, u int) []api.Token {
	if u == end {
		return m.End()
	}
	return m.Put(u)
}

// run is the tokens of all steps.
func run(m *match.Match, us ...int) []api.Token {
	var ts []api.Token
	for _, u := range us {
		ts = append(ts, step(m, u)...)
	}
	return ts
}

func tokens(t *testing.T, got []api.Token, want ...api.Token) {
	t.Helper()
	if !same(got, want) {
		t.Fatal("tokens", got, "not", want)
	}
}

// state holds what a Match tells of itself; asking twice must not change it.
func state(t *testing.T, m *match.Match, held, steps int) {
	t.Helper()
	for range 2 {
		if m.Held() != held || m.Steps() != steps {
			t.Fatalf("%d wait and there were %d steps, not %d and %d", m.Held(), m.Steps(), held, steps)
		}
	}
}

// model does what P6.1 and P6.2 say, word for word; it has what is looked for from the rules themselves, and the tokens from rewrite.All.
type model struct {
	rules []api.Rule
	trie  *trie.Trie
	wait  []int
	at    int
	steps int
}

// leads tells whether the waiting units are a proper prefix of an In.
func (m *model) leads() bool {
	return slices.ContainsFunc(m.rules, func(r api.Rule) bool {
		return len(r.In) > len(m.wait) && slices.Equal(r.In[:len(m.wait)], m.wait)
	})
}

func (m *model) token() api.Token {
	x := rewrite.All(m.trie, m.wait)[0]
	m.wait = m.wait[x.Len:]
	x.At = m.at
	m.at += x.Len
	return x
}

func (m *model) step(u int) []api.Token {
	if u != end {
		m.wait = append(slices.Clone(m.wait), u)
	}
	var ts []api.Token
	for len(m.wait) > 0 {
		m.steps += len(m.wait)
		if u != end && m.leads() {
			break
		}
		ts = append(ts, m.token())
	}
	return ts
}

// follow holds a Match against the model, step by step.
func follow(t *testing.T, rs []api.Rule, x *trie.Trie, us []int) {
	t.Helper()
	m, w := match.Of(x), &model{rules: rs, trie: x}
	for k, u := range us {
		got, want := step(m, u), w.step(u)
		if !same(got, want) {
			t.Fatalf("step %d of %v by %v is %v, not %v", k, us, rs, got, want)
		}
		if m.Held() != len(w.wait) || m.Held() >= api.MaxUnits {
			t.Fatalf("behind step %d of %v by %v wait %d, not %v", k, us, rs, m.Held(), w.wait)
		}
		if m.Steps() != w.steps {
			t.Fatalf("behind step %d of %v by %v there were %d steps, not %d", k, us, rs, m.Steps(), w.steps)
		}
	}
}

// rows has f called for every row of exactly n of the units given.
func rows(n int, from []int, f func(us []int)) {
	us := make([]int, n)
	var fill func(k int)
	fill = func(k int) {
		if k == n {
			f(us)
			return
		}
		for _, u := range from {
			us[k] = u
			fill(k + 1)
		}
	}
	fill(0)
}

// small has f called for all tables of at most three rules with Ins of at most three units, which are 1 and 2; their Outs have 1 to 3 units, and no two are the same.
func small(f func(rs []api.Rule)) {
	var all []api.Rule
	for n := range 3 {
		rows(n+1, units(1, 2), func(us []int) {
			k := len(all)
			all = append(all, one(slices.Clone(us), slices.Repeat(units(100+k), k%3+1)))
		})
	}
	var add func(rs, rest []api.Rule)
	add = func(rs, rest []api.Rule) {
		f(rs)
		if len(rs) == 3 {
			return
		}
		for k, r := range rest {
			add(append(slices.Clone(rs), r), rest[k+1:])
		}
	}
	add(nil, all)
}

// broad are 512 rules of one unit each, in no order; deep are 512 rules of 8 units each that share the first 7.
func broad() []api.Rule {
	var rs []api.Rule
	for k := range api.MaxRules {
		rs = append(rs, single(k*2039%0x110000, k))
	}
	return rs
}

func deep() []api.Rule {
	var rs []api.Rule
	for k := range api.MaxRules {
		rs = append(rs, one(units(0, 0, 0, 0, 0, 0, 0, 511-k), units(k, 0, 0, 0, 0, 0, 0, k)))
	}
	return rs
}

func TestTheExampleOfTheChapter(t *testing.T) { // P6.1, P6.2
	m := match.Of(of(t, single('a', 1), one(units('a', 'b'), units(2))))
	state(t, m, 0, 0)
	tokens(t, m.Put('a'))
	state(t, m, 1, 1)
	tokens(t, m.Put('c'), good(0, 1, 1), bad(1))
	// Two units are looked at ahead of the first token, one ahead of the second.
	state(t, m, 0, 1+2+1)
	tokens(t, m.Put('a'))
	tokens(t, m.Put('b'), good(2, 2, 2))
	state(t, m, 0, 4+1+2)
}

func TestPutByName(t *testing.T) { // P6.1, P6.2
	x := of(t, single(1, 10), one(units(1, 2, 3, 4), units(11, 12)), one(units(2, 3), units(13)), one(units(5, 6, 7), units(14)), single(7, 7), one(units(7, 7, 8), units(15)))
	for _, y := range []struct {
		us    []int
		ts    []api.Token // what the last unit makes sure
		held  int
		steps int // those of the last unit alone
	}{
		// A rule's In waits if there is a longer one, else it does not.
		{units(1), nil, 1, 1},
		{units(2), nil, 1, 1},
		{units(2, 3), list(good(0, 2, 13)), 0, 2},
		{units(9), list(bad(0)), 0, 1},
		{units(6), list(bad(0)), 0, 1},
		{units(1, 2), nil, 2, 2},
		{units(1, 2, 3), nil, 3, 3},
		{units(1, 2, 3, 4), list(good(0, 4, 11, 12)), 0, 4},
		// What waited for a longer In, which then is not there, is taken anew; what leads on waits.
		{units(1, 1), list(good(0, 1, 10)), 1, 2 + 1},
		{units(1, 9), list(good(0, 1, 10), bad(1)), 0, 2 + 1},
		{units(1, 2, 1), list(good(0, 1, 10), bad(1)), 1, 3 + 2 + 1},
		{units(1, 2, 2), list(good(0, 1, 10), bad(1)), 1, 3 + 2 + 1},
		{units(1, 2, 9), list(good(0, 1, 10), bad(1), bad(2)), 0, 3 + 2 + 1},
		{units(1, 2, 3, 1), list(good(0, 1, 10), good(1, 2, 13)), 1, 4 + 3 + 1},
		{units(1, 2, 3, 9), list(good(0, 1, 10), good(1, 2, 13), bad(3)), 0, 4 + 3 + 1},
		{units(5, 6, 5), list(bad(0), bad(1)), 1, 3 + 2 + 1},
		{units(5, 6, 7), list(good(0, 3, 14)), 0, 3},
		{units(5, 5), list(bad(0)), 1, 2 + 1},
		// More than one unit may wait on behind a token.
		{units(7, 7), nil, 2, 2},
		{units(7, 7, 7), list(good(0, 1, 7)), 2, 3 + 2},
		{units(7, 7, 7, 8), list(good(1, 3, 15)), 0, 3},
		{units(7, 7, 7, 7, 7), list(good(2, 1, 7)), 2, 3 + 2},
		{units(7, 7, 9), list(good(0, 1, 7), good(1, 1, 7), bad(2)), 0, 3 + 2 + 1},
		{units(7, 8), list(good(0, 1, 7), bad(1)), 0, 2 + 1},
	} {
		m, last := match.Of(x), len(y.us)-1
		run(m, y.us[:last]...)
		steps := m.Steps()
		if got := m.Put(y.us[last]); !same(got, y.ts) {
			t.Errorf("the last of %v makes sure %v, not %v", y.us, got, y.ts)
		}
		if m.Held() != y.held || m.Steps()-steps != y.steps {
			t.Errorf("behind %v wait %d, by %d steps", y.us, m.Held(), m.Steps()-steps)
		}
	}
}

func TestEndByName(t *testing.T) { // P6.1, P6.2
	x := of(t, single(1, 10), one(units(1, 2, 3, 4), units(11, 12)), one(units(2, 3), units(13)), one(units(5, 6, 7), units(14)), single(7, 7), one(units(7, 7, 8), units(15)))
	for _, y := range []struct {
		us    []int
		ts    []api.Token
		steps int // those of End alone
	}{
		{nil, nil, 0},
		{units(9), nil, 0},
		{units(2, 3), nil, 0},
		{units(1), list(good(0, 1, 10)), 1},
		{units(2), list(bad(0)), 1},
		{units(1, 2), list(good(0, 1, 10), bad(1)), 2 + 1},
		// One token each, once looked for, though the units lead on.
		{units(1, 2, 3), list(good(0, 1, 10), good(1, 2, 13)), 3 + 2},
		{units(5, 6), list(bad(0), bad(1)), 2 + 1},
		{units(7, 7), list(good(0, 1, 7), good(1, 1, 7)), 2 + 1},
		{units(9, 9, 1, 1), list(good(3, 1, 10)), 1},
	} {
		m := match.Of(x)
		run(m, y.us...)
		steps := m.Steps()
		tokens(t, m.End(), y.ts...)
		state(t, m, 0, steps+y.steps)
		// Nothing waits any more: nothing is looked at.
		tokens(t, m.End())
		state(t, m, 0, steps+y.steps)
	}
}

func TestUnitsBehindAnEndFollow(t *testing.T) { // P6.1, P6.2
	m := match.Of(of(t, single(1, 10), one(units(1, 2, 3), units(11)), one(units(2, 2), units(12))))
	tokens(t, m.End())
	tokens(t, run(m, 1, 2))
	tokens(t, m.End(), good(0, 1, 10), bad(1))
	state(t, m, 0, 1+2+2+1)
	// What was taken is not the beginning of anything any more.
	tokens(t, m.Put(3), bad(2))
	tokens(t, run(m, 1, 2))
	tokens(t, m.Put(3), good(3, 3, 11))
	state(t, m, 0, 6+1+1+2+3)
	tokens(t, run(m, 2, end, 2, end), bad(6), bad(7))
	tokens(t, run(m, 2, 2), good(8, 2, 12))
	state(t, m, 0, 13+4+3)
}

func TestMatchIsAsItsWordsSay(t *testing.T) { // P6.1, P6.2
	var all [][]int
	rows(5, units(1, 2, 3, end), func(us []int) { all = append(all, append(slices.Clone(us), end)) })
	small(func(rs []api.Rule) {
		x := of(t, rs...)
		for _, us := range all {
			follow(t, rs, x, us)
		}
	})
}

func TestPartsMakeTheWhole(t *testing.T) { // P6.1, T1
	var all [][]int
	rows(7, units(1, 2, 3), func(us []int) {
		if us[0] != 3 {
			all = append(all, slices.Clone(us))
		}
	})
	x := of(t, single(1, 10), one(units(1, 1, 2), units(11)), one(units(2, 1, 1, 1), units(12)), one(units(1, 2, 1, 2, 1), units(13)), one(units(2, 2), units(14)), one(units(1, 2, 3), units(15, 16)))
	for _, us := range all {
		m := match.Of(x)
		tokens(t, append(run(m, us...), m.End()...), rewrite.All(x, us)...)
	}
}

func TestMatchAtTheBounds(t *testing.T) { // P6.1, P6.2
	for _, rs := range [][]api.Rule{broad(), deep(), {one(slices.Repeat(units(0x10ffff), 8), make([]int, 8)), single(0, 0x10ffff)}} {
		x := of(t, rs...)
		var us []int
		for k, r := range rs {
			follow(t, rs, x, append(slices.Clone(r.In), end))
			us = append(us, r.In...)
			if k%5 == 0 {
				us = append(us, 0, end, 0x10ffff)
			}
		}
		follow(t, rs, x, us)
		follow(t, rs, x, us[1:])
		slices.Reverse(us)
		follow(t, rs, x, append(us, end))
	}
}

func TestAsManyWaitAsMay(t *testing.T) { // P6.1, P6.2
	const to7, to8 = 1 + 2 + 3 + 4 + 5 + 6 + 7, 1 + 2 + 3 + 4 + 5 + 6 + 7 + 8
	m := match.Of(of(t, one(make([]int, 8), units(1)), one(units(2, 3), units(4))))
	seven := make([]int, 7)
	tokens(t, run(m, seven...))
	state(t, m, 7, to7)
	tokens(t, m.Put(0), good(0, 8, 1))
	state(t, m, 0, to8)
	tokens(t, run(m, seven...))
	tokens(t, m.Put(9), bads(8, 8)...)
	state(t, m, 0, to8+to7+to8)
	// The last of eight leads on: once more it is looked at, and it waits.
	tokens(t, run(m, seven...))
	tokens(t, m.Put(2), bads(16, 7)...)
	state(t, m, 1, to8+2*(to7+to8))
	tokens(t, m.Put(3), good(23, 2, 4))
	state(t, m, 0, to8+2*(to7+to8)+2)
	tokens(t, run(m, seven...))
	tokens(t, m.End(), bads(25, 7)...)
	state(t, m, 0, to8+2*(to7+to8)+2+2*to7)
}

func TestTheLongestOfMoreThanOne(t *testing.T) { // P6.1
	var rs []api.Rule
	for n := range api.MaxUnits {
		rs = append(rs, one(make([]int, n+1), units(n+1)))
	}
	x := of(t, rs...)
	for n := range 8 {
		m := match.Of(x)
		tokens(t, run(m, make([]int, n)...))
		var want []api.Token
		if n > 0 {
			want = list(good(0, n, n))
		}
		tokens(t, m.Put(9), append(want, bad(n))...)
		tokens(t, run(m, make([]int, n)...))
		if n > 0 {
			want = list(good(n+1, n, n))
		}
		tokens(t, m.End(), want...)
	}
	m := match.Of(x)
	tokens(t, run(m, make([]int, 20)...), good(0, 8, 8), good(8, 8, 8))
	tokens(t, m.End(), good(16, 4, 4))
}

func TestNumbersThatAreNoUnits(t *testing.T) { // P6.1, W1
	strange := units(-1, math.MinInt, math.MaxInt, 1<<32, 1<<32+1, 0x110000)
	m := match.Of(of(t, single(1, 10), one(units(0, 1, 0), units(11))))
	for k, u := range strange {
		tokens(t, m.Put(u), bad(k))
		state(t, m, 0, k+1)
	}
	at := len(strange)
	for _, u := range strange {
		tokens(t, run(m, 0, 1))
		tokens(t, m.Put(u), bad(at), good(at+1, 1, 10), bad(at+2))
		at += 3
	}
}

func TestMatchWithoutRules(t *testing.T) { // P6.1, P6.2, W1
	for _, m := range []*match.Match{match.Of(of(t)), match.Of(&trie.Trie{}), {}} {
		state(t, m, 0, 0)
		tokens(t, m.End())
		for k, u := range units(0, 1, -1, 0x10ffff, math.MaxInt, 0, 0, 0, 0, 0) {
			tokens(t, m.Put(u), bad(k))
			state(t, m, 0, k+1)
		}
		tokens(t, m.End())
		state(t, m, 0, 10)
	}
}

func TestALongRow(t *testing.T) { // P6.1, P6.2, W1
	const size = 1 << 20
	m := match.Of(of(t, one(make([]int, 8), units(1)), one(make([]int, 3), units(2))))
	for k := range size {
		ts := m.Put(0)
		if k%8 < 7 {
			tokens(t, ts)
		} else {
			tokens(t, ts, good(k-7, 8, 1))
		}
	}
	state(t, m, 0, size/8*36)
	tokens(t, run(m, make([]int, 7)...))
	tokens(t, m.End(), good(size, 3, 2), good(size+3, 3, 2), bad(size+6))
	state(t, m, 0, size/8*36+28+7+4+1)
}

func TestMatchesShareNothing(t *testing.T) { // P6.1, W2, W6
	x := of(t, one(units(1, 2, 3), units(7)), single(4, 8))
	m, other := match.Of(x), match.Of(x)
	run(m, 9, 1, 2)
	tokens(t, other.Put(4), good(0, 1, 8))
	state(t, other, 0, 1)
	twin := *m
	tokens(t, twin.Put(4), bad(1), bad(2), good(3, 1, 8))
	state(t, &twin, 0, 1+1+2+3+2+1)
	run(&twin, 1, 1)
	state(t, m, 2, 1+1+2)
	tokens(t, m.Put(3), good(1, 3, 7))
	tokens(t, run(other, 2, 1, 2, 3), bad(1), good(2, 3, 7))
}

func TestTokensShareNothing(t *testing.T) { // P6.1, W2, W6
	x := of(t, one(units(1, 2), units(5, 6)), single(3, 4))
	m := match.Of(x)
	ts := run(m, 1, 2, 3, 1, 2, 9)
	want := list(good(0, 2, 5, 6), good(2, 1, 4), good(3, 2, 5, 6), bad(5))
	tokens(t, ts, want...)
	ts[0].Out[0], ts[1].Out[0] = 99, 98
	ts[0].Out = append(ts[0].Out, 97)
	tokens(t, ts[2:], want[2:]...)
	tokens(t, run(m, 1, 2, 3), good(6, 2, 5, 6), good(8, 1, 4))
	// Later units change no token that was handed out.
	ts = m.Put(9)
	run(m, 1, 2, 1)
	tokens(t, ts, bad(9))
	tokens(t, rewrite.All(x, units(1, 2, 3)), good(0, 2, 5, 6), good(2, 1, 4))
}
