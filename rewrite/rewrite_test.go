package rewrite_test

import (
	"math"
	"slices"
	"testing"

	"lontar/api"
	"lontar/rewrite"
	"lontar/rule"
	"lontar/trie"
)

func units(us ...int) []int { return us }

func one(in, out []int) api.Rule { return api.Rule{In: in, Out: out} }

func single(in, out int) api.Rule { return one(units(in), units(out)) }

// good is a token of a rule, bad one of a unit that is not mapped.
func good(at, size int, out ...int) api.Token { return api.Token{At: at, Len: size, Out: out} }

func bad(at int) api.Token { return api.Token{At: at, Len: 1, Err: api.ErrMap} }

func sameToken(a, b api.Token) bool {
	return a.At == b.At && a.Len == b.Len && a.Err == b.Err && slices.Equal(a.Out, b.Out)
}

func same(a, b []api.Token) bool { return slices.EqualFunc(a, b, sameToken) }

// copied are the same tokens in memory of their own.
func copied(ts []api.Token) []api.Token {
	own := slices.Clone(ts)
	for k := range own {
		own[k].Out = slices.Clone(own[k].Out)
	}
	return own
}

// of is the trie of rules that are valid.
func of(t *testing.T, rs []api.Rule) *trie.Trie {
	t.Helper()
	x, e := trie.Of(rs)
	if x == nil || e != 0 {
		t.Fatalf("Of %v is %v, %d", rs, x, e)
	}
	return x
}

// rows has f called for every row of at most n of those given.
func rows[E any](n int, of []E, f func(es []E)) {
	var add func(es []E)
	add = func(es []E) {
		f(es)
		if len(es) == n {
			return
		}
		for _, e := range of {
			add(append(slices.Clone(es), e))
		}
	}
	add(nil)
}

// small has f called for all tables of at most three rules with Ins of at most three units, which are 1 and 2; their Outs have 1 to 3 units, and no two are the same.
func small(f func(rs []api.Rule)) {
	var all []api.Rule
	rows(3, units(1, 2), func(us []int) {
		if k := len(all); len(us) > 0 {
			all = append(all, one(us, slices.Repeat(units(100+k), k%3+1)))
		}
	})
	rows(3, all, func(rs []api.Rule) {
		if k, _ := rule.Check(rs); k < 0 {
			f(rs)
		}
	})
}

// broad are 512 rules of one unit each, in no order; deep are 512 rules of 8 units each that share the first 7.
func broad() []api.Rule {
	var rs []api.Rule
	for k := range api.MaxRules {
		rs = append(rs, single(k*2039%0x110000, k))
	}
	return rs
}

func deep() []api.Rule {
	var rs []api.Rule
	for k := range api.MaxRules {
		rs = append(rs, one(units(0, 0, 0, 0, 0, 0, 0, 511-k), units(k, 0, 0, 0, 0, 0, 0, k)))
	}
	return rs
}

// expect is what P5.1 says, word for word.
func expect(rs []api.Rule, us []int) []api.Token {
	var ts []api.Token
	for at := 0; at < len(us); {
		x := bad(at)
		for _, r := range rs {
			n := len(r.In)
			if at+n <= len(us) && slices.Equal(us[at:at+n], r.In) && (x.Err != 0 || n > x.Len) {
				x = good(at, n, r.Out...)
			}
		}
		ts = append(ts, x)
		at += x.Len
	}
	return ts
}

// rewritten holds All of us against P5.1.
func rewritten(t *testing.T, x *trie.Trie, us []int, want []api.Token) {
	t.Helper()
	kept := slices.Clone(us)
	if ts := rewrite.All(x, us); !same(ts, want) {
		t.Fatalf("All of %v is %v, not %v", us, ts, want)
	}
	if !slices.Equal(us, kept) {
		t.Fatalf("All changed %v to %v", kept, us)
	}
}

// meant holds Units of ts against P5.2.
func meant(t *testing.T, ts []api.Token, want []int, wrong api.Token) {
	t.Helper()
	kept := copied(ts)
	us, bad := rewrite.Units(ts)
	if !slices.Equal(us, want) || !sameToken(bad, wrong) {
		t.Fatalf("Units of %v are %v and %v, not %v and %v", ts, us, bad, want, wrong)
	}
	if !same(ts, kept) {
		t.Fatalf("Units changed %v to %v", kept, ts)
	}
}

func TestAllByName(t *testing.T) { // P5.1
	// The chapter's example, with a, b and c as numbers.
	example := of(t, []api.Rule{single('a', 1), one(units('a', 'b'), units(2))})
	rewritten(t, example, units('a', 'b', 'a', 'c'), []api.Token{good(0, 2, 2), good(2, 1, 1), bad(3)})
	x := of(t, []api.Rule{single(1, 10), one(units(1, 2, 3, 4), units(11, 12)), one(units(2, 3), units(13)), one(units(5, 6, 7), units(14)), single(7, 7)})
	for _, y := range []struct {
		us   []int
		want []api.Token
	}{
		{nil, nil},
		{units(), nil},
		{units(1), []api.Token{good(0, 1, 10)}},
		{units(9), []api.Token{bad(0)}},
		{units(1, 1), []api.Token{good(0, 1, 10), good(1, 1, 10)}},
		{units(1, 2, 3, 4), []api.Token{good(0, 4, 11, 12)}},
		{units(1, 2, 3, 4, 1, 2, 3, 4), []api.Token{good(0, 4, 11, 12), good(4, 4, 11, 12)}},
		// What was looked at for a longer In, which then is not there, is looked at anew.
		{units(1, 2, 3), []api.Token{good(0, 1, 10), good(1, 2, 13)}},
		{units(1, 2, 3, 1), []api.Token{good(0, 1, 10), good(1, 2, 13), good(3, 1, 10)}},
		{units(1, 2, 1, 2, 3, 4), []api.Token{good(0, 1, 10), bad(1), good(2, 4, 11, 12)}},
		{units(5, 6, 1), []api.Token{bad(0), bad(1), good(2, 1, 10)}},
		{units(5, 6), []api.Token{bad(0), bad(1)}},
		{units(5, 5, 6, 7), []api.Token{bad(0), good(1, 3, 14)}},
		// Of what overlaps, the one that begins first is taken.
		{units(4, 2, 3, 4), []api.Token{bad(0), good(1, 2, 13), bad(3)}},
		// What a rule makes is not rewritten again.
		{units(7, 7), []api.Token{good(0, 1, 7), good(1, 1, 7)}},
		{units(10, 13), []api.Token{bad(0), bad(1)}},
		{units(-1, 0, math.MinInt, 1, math.MaxInt, 1<<32+1, 0x110000), []api.Token{bad(0), bad(1), bad(2), good(3, 1, 10), bad(4), bad(5), bad(6)}},
	} {
		rewritten(t, x, y.us, y.want)
	}
}

func TestAllIsAsItsWordsSay(t *testing.T) { // P5.1, P5.2
	var all [][]int
	rows(5, units(1, 2, 3), func(us []int) { all = append(all, us) })
	small(func(rs []api.Rule) {
		x := of(t, rs)
		for _, us := range all {
			ts := expect(rs, us)
			rewritten(t, x, us, ts)
			var out []int
			var wrong api.Token
			for k := range ts {
				y := ts[len(ts)-1-k]
				out = slices.Concat(y.Out, out)
				if y.Err != 0 {
					wrong = y
				}
			}
			meant(t, ts, out, wrong)
		}
	})
}

func TestAllAtTheBounds(t *testing.T) { // P5.1
	for _, rs := range [][]api.Rule{broad(), deep(), {one(slices.Repeat(units(0x10ffff), 8), make([]int, 8)), single(0, 0x10ffff)}} {
		x := of(t, rs)
		var us []int
		for _, r := range rs {
			us = append(us, r.In...)
			rewritten(t, x, r.In, []api.Token{good(0, len(r.In), r.Out...)})
			rewritten(t, x, r.In[1:], expect(rs, r.In[1:]))
			rewritten(t, x, r.In[:len(r.In)-1], expect(rs, r.In[:len(r.In)-1]))
		}
		ts := expect(rs, us)
		if len(ts) != len(rs) {
			t.Fatalf("%d rules in a row are %d tokens", len(rs), len(ts))
		}
		rewritten(t, x, us, ts)
		rewritten(t, x, us[1:], expect(rs, us[1:]))
		slices.Reverse(us)
		rewritten(t, x, us, expect(rs, us))
	}
}

func TestAllOfALongRow(t *testing.T) { // P5.1, W1
	const size = 1 << 20
	x := of(t, []api.Rule{one(make([]int, 8), units(1)), one(make([]int, 3), units(2))})
	ts := rewrite.All(x, make([]int, size+7))
	if len(ts) != size/8+3 {
		t.Fatal(len(ts))
	}
	for k, y := range ts[:size/8] {
		if !sameToken(y, good(8*k, 8, 1)) {
			t.Fatal(k, y)
		}
	}
	if rest := ts[size/8:]; !same(rest, []api.Token{good(size, 3, 2), good(size+3, 3, 2), bad(size + 6)}) {
		t.Error(rest)
	}
	us, wrong := rewrite.Units(ts)
	if len(us) != size/8+2 || us[0] != 1 || us[size/8] != 2 || !sameToken(wrong, bad(size+6)) {
		t.Error(len(us), wrong)
	}
}

func TestAllWithoutRules(t *testing.T) { // P5.1, W1
	for _, x := range []*trie.Trie{of(t, nil), {}} {
		rewritten(t, x, nil, nil)
		rewritten(t, x, units(0), []api.Token{bad(0)})
		rewritten(t, x, units(1, -1, math.MaxInt), []api.Token{bad(0), bad(1), bad(2)})
	}
}

func TestAllSharesNothing(t *testing.T) { // P5.1, W2, W6
	x := of(t, []api.Rule{one(units(1, 2), units(1, 2)), single(3, 4)})
	us := units(1, 2, 3, 1, 2, 5)
	want := []api.Token{good(0, 2, 1, 2), good(2, 1, 4), good(3, 2, 1, 2), bad(5)}
	ts := rewrite.All(x, us)
	ts[0].Out[0], ts[1].Out[0] = 99, 98
	ts[0].Out = append(ts[0].Out, 97)
	if !same(ts[2:], want[2:]) {
		t.Error(ts)
	}
	rewritten(t, x, us, want)
	us[3], us[5] = 7, 8
	if !same(ts[2:], want[2:]) {
		t.Error(ts)
	}
	rewritten(t, x, units(5, 3), []api.Token{bad(0), good(1, 1, 4)})
}

func TestUnitsByName(t *testing.T) { // P5.2
	short := api.Token{At: 4, Len: 2, Err: api.ErrShort}
	odd := api.Token{At: -1, Len: 0, Out: units(5, 6), Err: -3}
	none := api.Token{}
	for _, y := range []struct {
		ts    []api.Token
		us    []int
		wrong api.Token
	}{
		{nil, nil, none},
		{[]api.Token{}, nil, none},
		{[]api.Token{none}, nil, none},
		{[]api.Token{good(0, 1, 7)}, units(7), none},
		{[]api.Token{good(0, 2, 2), good(2, 1, 1), bad(3)}, units(2, 1), bad(3)},
		{[]api.Token{bad(0), short}, nil, bad(0)},
		{[]api.Token{short, bad(0)}, nil, short},
		{[]api.Token{good(0, 1, 3, 3), bad(1), good(2, 1, 1, 2), bad(3), good(4, 1, 3)}, units(3, 3, 1, 2, 3), bad(1)},
		// A token that is wrong and has an Out counts as well, and any Err that is not 0 is one.
		{[]api.Token{odd}, units(5, 6), odd},
		{[]api.Token{good(0, 1, 4), odd, bad(1), good(2, 1, -7)}, units(4, 5, 6, -7), odd},
		{[]api.Token{bad(1), odd}, units(5, 6), bad(1)},
		{[]api.Token{good(math.MaxInt, math.MinInt, math.MaxInt, math.MinInt), good(-1, -1)}, units(math.MaxInt, math.MinInt), none},
	} {
		meant(t, y.ts, y.us, y.wrong)
	}
}

func TestUnitsIsAsItsWordsSay(t *testing.T) { // P5.2
	few := []api.Token{{}, good(0, 1, 1), good(1, 2, 2, 3), bad(2), {At: 3, Len: 3, Err: api.ErrForm}, {At: 4, Len: 2, Out: units(api.Bad), Err: api.ErrShort}, {Err: math.MinInt}}
	rows(4, few, func(ts []api.Token) {
		var us []int
		for _, y := range ts {
			us = append(us, y.Out...)
		}
		var wrong api.Token
		if k := slices.IndexFunc(ts, func(y api.Token) bool { return y.Err != 0 }); k >= 0 {
			wrong = ts[k]
		}
		meant(t, ts, us, wrong)
	})
}

func TestUnitsShareNothing(t *testing.T) { // P5.2, W6
	room := units(1, 2, 3, 4)
	ts := []api.Token{good(0, 1, room[:1]...), {At: 1, Len: 1, Out: room[1:2], Err: api.ErrForm}, {At: 2, Len: 1, Out: room[2:3], Err: api.ErrMap}}
	us, wrong := rewrite.Units(ts)
	us[0], us[1] = 9, 8
	us = append(us[:1], 7)
	if !slices.Equal(wrong.Out, units(2)) {
		t.Error(wrong)
	}
	wrong.Out[0] = 6
	wrong.Out = append(wrong.Out, 5)
	if !slices.Equal(room, units(1, 2, 3, 4)) || !slices.Equal(us, units(9, 7)) {
		t.Error(room, us)
	}
	room[0], room[1] = 11, 12
	if !slices.Equal(us, units(9, 7)) || !slices.Equal(wrong.Out, units(6, 5)) {
		t.Error(us, wrong)
	}
	// One token alone: its Out must not be handed on as it is.
	room = units(1, 2)
	us, _ = rewrite.Units([]api.Token{good(0, 1, room...)})
	us[0] = 3
	if !slices.Equal(room, units(1, 2)) {
		t.Error(room)
	}
}
