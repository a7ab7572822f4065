package trie_test

import (
	"math"
	"slices"
	"strconv"
	"testing"

	"lontar/api"
	"lontar/rule"
	"lontar/trie"
)

func units(us ...int) []int { return us }

func one(in, out []int) api.Rule { return api.Rule{In: in, Out: out} }

func single(in, out int) api.Rule { return one(units(in), units(out)) }

// copied are the same rules in memory of their own.
func copied(rs []api.Rule) []api.Rule {
	var own []api.Rule
	for _, r := range rs {
		own = append(own, one(slices.Clone(r.In), slices.Clone(r.Out)))
	}
	return own
}

func same(a, b []api.Rule) bool {
	return slices.EqualFunc(a, b, func(x, y api.Rule) bool { return slices.Equal(x.In, y.In) && slices.Equal(x.Out, y.Out) })
}

// of is the trie of rules that are valid.
func of(t *testing.T, rs []api.Rule) *trie.Trie {
	t.Helper()
	kept := copied(rs)
	x, e := trie.Of(rs)
	if x == nil || e != 0 {
		t.Fatalf("Of %v is %v, %d", rs, x, e)
	}
	if !same(rs, kept) {
		t.Fatalf("Of changed %v to %v", kept, rs)
	}
	return x
}

// strange are numbers that are no node of a small trie, no rule and no unit.
func strange() []int {
	return units(-1, -2, math.MinInt, 1<<20, 1<<32, 1<<32+1, math.MaxInt)
}

// name is units as a key of a map.
func name(us []int) string {
	s := ""
	for _, u := range us {
		s += strconv.Itoa(u) + " "
	}
	return s
}

// words has f called for every row of at most n units of those given.
func words(n int, of []int, f func(us []int)) {
	var add func(us []int)
	add = func(us []int) {
		f(us)
		if len(us) == n {
			return
		}
		for _, u := range of {
			add(append(slices.Clone(us), u))
		}
	}
	add(nil)
}

// tables has f called for all rows of at most n rules of which no two have the same In, with the Ins given.
func tables(n int, ins [][]int, f func(rs []api.Rule)) {
	var add func(rs []api.Rule)
	add = func(rs []api.Rule) {
		f(rs)
		if len(rs) == n {
			return
		}
		for k, in := range ins {
			if rule.Find(rs, in) < 0 {
				add(append(slices.Clone(rs), one(in, units(100+k, len(rs)))))
			}
		}
	}
	add(nil)
}

// small has f called for all tables of at most three rules with Ins of at most three units, which are 1 and 2.
func small(f func(rs []api.Rule)) {
	var ins [][]int
	words(3, units(1, 2), func(us []int) {
		if len(us) > 0 {
			ins = append(ins, us)
		}
	})
	tables(3, ins, f)
}

// prefixes are the empty one and those of all Ins, each once.
func prefixes(rs []api.Rule) [][]int {
	all := [][]int{nil}
	known := map[string]bool{"": true}
	for _, r := range rs {
		for n := range r.In {
			p := r.In[:n+1]
			if !known[name(p)] {
				known[name(p)] = true
				all = append(all, p)
			}
		}
	}
	return all
}

// begins tells whether units begin with those of p.
func begins(us, p []int) bool { return len(us) >= len(p) && slices.Equal(us[:len(p)], p) }

// leads tells whether units are a proper prefix of an In.
func leads(rs []api.Rule, us []int) bool {
	return slices.ContainsFunc(rs, func(r api.Rule) bool { return len(r.In) > len(us) && begins(r.In, us) })
}

// walk goes from the root along units.
func walk(x *trie.Trie, us []int) (int, bool) {
	at := 0
	for _, u := range us {
		next, ok := x.Step(at, u)
		if !ok {
			return 0, false
		}
		at = next
	}
	return at, true
}

// nodes holds the nodes of a trie against P4.1 and P4.2; others are units that are asked for beside those of the rules.
func nodes(t *testing.T, rs []api.Rule, others []int) {
	t.Helper()
	x, all := of(t, rs), prefixes(rs)
	if x.Size() != len(all) {
		t.Fatalf("Size of %v is %d, not %d", rs, x.Size(), len(all))
	}
	seen := map[int]bool{}
	for _, p := range all {
		at, ok := walk(x, p)
		if !ok || at < 0 || at >= len(all) || seen[at] {
			t.Fatalf("the node of %v in %v is %d, %v", p, rs, at, ok)
		}
		seen[at] = true
		if k := rule.Find(rs, p); x.Rule(at) != k {
			t.Fatalf("Rule at %v in %v is %d, not %d", p, rs, x.Rule(at), k)
		}
		if x.Leaf(at) == leads(rs, p) {
			t.Fatalf("Leaf at %v in %v is %v", p, rs, x.Leaf(at))
		}
		for _, u := range others {
			longer := append(slices.Clone(p), u)
			is := slices.ContainsFunc(rs, func(r api.Rule) bool { return begins(r.In, longer) })
			if next, ok := x.Step(at, u); ok != is || !ok && next != 0 {
				t.Fatalf("Step from %v by %d in %v is %d, %v", p, u, rs, next, ok)
			}
		}
	}
	outside(t, x, len(all))
}

// outside asks for numbers that are no nodes of a trie of size nodes.
func outside(t *testing.T, x *trie.Trie, size int) {
	t.Helper()
	for _, at := range append(strange(), size, size+1) {
		for _, u := range units(-1, 0, 1, 2, 0x10ffff) {
			if next, ok := x.Step(at, u); next != 0 || ok {
				t.Fatalf("Step from %d by %d is %d, %v", at, u, next, ok)
			}
		}
		if x.Rule(at) != -1 || !x.Leaf(at) {
			t.Fatalf("%d of %d nodes has %d, %v", at, size, x.Rule(at), x.Leaf(at))
		}
	}
}

// longest is what P4.3 says of us, word for word.
func longest(rs []api.Rule, us []int) (int, int, bool) {
	at, n := -1, 0
	for k, r := range rs {
		if begins(us, r.In) && len(r.In) > n {
			at, n = k, len(r.In)
		}
	}
	return at, n, leads(rs, us)
}

// found holds Longest of us against P4.3.
func found(t *testing.T, x *trie.Trie, rs []api.Rule, us []int) {
	t.Helper()
	kept := slices.Clone(us)
	wantAt, wantLen, wantOpen := longest(rs, us)
	if at, n, open := x.Longest(us); at != wantAt || n != wantLen || open != wantOpen {
		t.Fatalf("Longest of %v in %v is %d, %d, %v, not %d, %d, %v", us, rs, at, n, open, wantAt, wantLen, wantOpen)
	}
	if !slices.Equal(us, kept) {
		t.Fatalf("Longest changed %v to %v", kept, us)
	}
}

// broad are 512 rules of one unit each, in no order; deep are 512 rules of 8 units each that share the first `shared`.
func broad() []api.Rule {
	var rs []api.Rule
	for k := range api.MaxRules {
		rs = append(rs, single(k*2039%0x110000, k))
	}
	return rs
}

func deep(shared int) []api.Rule {
	var rs []api.Rule
	for k := range api.MaxRules {
		in := make([]int, api.MaxUnits)
		in[shared] = 511 - k
		rs = append(rs, one(in, units(k)))
	}
	return rs
}

func TestOfTellsWhatCheckTells(t *testing.T) { // P4.1, W3, W4
	a := one(units(1, 2), units(3))
	many := append(broad(), single(0x10ffff, 1))
	for k, x := range []struct {
		rs []api.Rule
		e  api.Errno
	}{
		{[]api.Rule{a, a}, api.ErrTwice},
		{[]api.Rule{a, single(1, 3), one(units(1, 2), units(4))}, api.ErrTwice},
		{[]api.Rule{one(nil, units(1))}, api.ErrArgument},
		{[]api.Rule{a, one(units(1), nil)}, api.ErrArgument},
		{[]api.Rule{a, one(units(), units(1))}, api.ErrArgument},
		{[]api.Rule{a, single(-1, 1)}, api.ErrArgument},
		{[]api.Rule{a, single(1, -1)}, api.ErrArgument},
		{[]api.Rule{single(0x110000, 1)}, api.ErrArgument},
		{[]api.Rule{single(1, 0x110000)}, api.ErrArgument},
		{[]api.Rule{one(make([]int, 9), units(1))}, api.ErrArgument},
		{[]api.Rule{one(units(1), make([]int, 9))}, api.ErrArgument},
		{[]api.Rule{a, a, one(nil, nil)}, api.ErrTwice},
		{[]api.Rule{a, one(nil, nil), a}, api.ErrArgument},
		{many, api.ErrLimit},
		{append(slices.Clone(many), a, a), api.ErrLimit},
		{append([]api.Rule{many[1]}, many...), api.ErrTwice},
		{append(broad(), one(nil, nil)), api.ErrLimit},
		{make([]api.Rule, 600), api.ErrArgument},
	} {
		kept := copied(x.rs)
		if y, e := trie.Of(x.rs); y != nil || e != x.e {
			t.Errorf("%d: Of is %v, %d, not %d", k, y, e, x.e)
		}
		if !same(x.rs, kept) {
			t.Errorf("%d: Of changed the rules", k)
		}
	}
}

func TestOfNoRulesHasTheRoot(t *testing.T) { // P4.1, P4.2, P4.3
	for _, rs := range [][]api.Rule{nil, {}} {
		nodes(t, rs, append(strange(), 0, 1))
		x := of(t, rs)
		if x.Size() != 1 || x.Rule(0) != -1 || !x.Leaf(0) || len(x.Out(0)) != 0 {
			t.Error(x.Size(), x.Rule(0), x.Leaf(0), x.Out(0))
		}
		for _, us := range [][]int{nil, {}, units(0), units(1, 2), strange()} {
			found(t, x, rs, us)
		}
	}
}

func TestSizeByName(t *testing.T) { // P4.1
	for _, y := range []struct {
		rs   []api.Rule
		size int
	}{
		{[]api.Rule{single(0, 0)}, 2},
		{[]api.Rule{one(units(1, 1, 1), units(1))}, 4},
		{[]api.Rule{one(make([]int, 8), make([]int, 8))}, 9},
		{[]api.Rule{one(units(1, 2), units(3)), one(units(2, 1), units(3))}, 5},
		{[]api.Rule{one(units(1, 2), units(3)), single(1, 3)}, 3},
		{[]api.Rule{single(1, 3), one(units(1, 2), units(3))}, 3},
		{[]api.Rule{one(units(1, 2, 3), units(3)), one(units(1, 2, 4), units(3)), one(units(2, 2, 3), units(3))}, 8},
		{[]api.Rule{single(1, 10), one(units(1, 2, 3), units(11, 12)), single(4, 13)}, 5},
		{broad(), 513},
		{deep(0), 1 + 512*8},
		{deep(1), 2 + 512*7},
		{deep(7), 8 + 512},
	} {
		if n := of(t, y.rs).Size(); n != y.size {
			t.Errorf("Size of %d rules is %d, not %d", len(y.rs), n, y.size)
		}
	}
}

func TestNodesAreAsTheirWordsSay(t *testing.T) { // P4.1, P4.2
	small(func(rs []api.Rule) { nodes(t, rs, units(-1, 0, 1, 2, 3)) })
	nodes(t, broad(), append(strange(), 0, 1, 2, 2038, 2039, 2040, 0x10ffff, 0x110000))
	for shared := range api.MaxUnits {
		nodes(t, deep(shared), units(-1, 0, 1, 255, 511, 512))
	}
	edges := units(0, 1, 0x7f, 0x80, 0xff, 0x100, 0xd7ff, 0xd800, 0xdfff, 0xffff, 0x10000, 0x10fffe, 0x10ffff)
	var rs []api.Rule
	for _, u := range edges {
		rs = append(rs, single(u, 1), one(units(0x10ffff-u, u), units(2)))
	}
	nodes(t, rs, append(append(strange(), 2, 0x110000, 0x100000000), edges...))
}

func TestStepsByName(t *testing.T) { // P4.2
	x := of(t, []api.Rule{one(units(2, 1), units(3)), single(2, 4), one(units(1, 1, 1), units(5))})
	a, is := x.Step(0, 2)
	b, was := x.Step(a, 1)
	if !is || !was || x.Rule(a) != 1 || x.Rule(b) != 0 || x.Leaf(a) || !x.Leaf(b) || x.Leaf(0) || x.Rule(0) != -1 {
		t.Error(a, b)
	}
	for _, u := range append(strange(), 0, 3) {
		for at := range x.Size() {
			if next, ok := x.Step(at, u); next != 0 || ok {
				t.Error(at, u, next)
			}
		}
	}
	if c, ok := walk(x, units(1, 1)); !ok || x.Rule(c) != -1 || x.Leaf(c) {
		t.Error(c)
	}
	if _, ok := walk(x, units(1, 1, 1, 1)); ok {
		t.Error("there is nothing behind a leaf")
	}
}

func TestOutIsThatOfTheRule(t *testing.T) { // P4.2
	for _, rs := range [][]api.Rule{
		{one(units(1), units(0))},
		{one(units(1, 2), units(7, 8, 9)), single(1, 6), one(units(3), make([]int, 8)), single(4, 6)},
		broad(),
		deep(3),
	} {
		x := of(t, rs)
		for k, r := range rs {
			if !slices.Equal(x.Out(k), r.Out) {
				t.Fatalf("Out of %d is %v, not %v", k, x.Out(k), r.Out)
			}
		}
		for _, k := range append(strange(), len(rs), len(rs)+1) {
			if len(x.Out(k)) != 0 {
				t.Fatalf("Out of %d of %d rules is %v", k, len(rs), x.Out(k))
			}
		}
	}
}

func TestTrieSharesNothing(t *testing.T) { // P4.1, P4.2, W2, W6
	rs := []api.Rule{one(units(1, 2), units(3, 4)), one(units(1), units(5))}
	was := copied(rs)
	x := of(t, rs)
	rs[0].In[0], rs[0].In[1], rs[0].Out[0], rs[1].In[0] = 7, 8, 9, 10
	rs[1] = single(11, 12)
	out, again := x.Out(0), x.Out(0)
	out[0] = 99
	out = append(out[:1], 98)
	if !slices.Equal(again, units(3, 4)) || !slices.Equal(x.Out(0), units(3, 4)) || !slices.Equal(x.Out(1), units(5)) {
		t.Error(out, again, x.Out(0), x.Out(1))
	}
	words(3, units(1, 2, 7, 8, 10), func(us []int) { found(t, x, was, us) })
	// Two tries of the same rules, one of others between them, know nothing of each other.
	y, z := of(t, was), of(t, []api.Rule{single(1, 50), single(2, 51)})
	if y.Size() != x.Size() || z.Size() != 3 || !slices.Equal(z.Out(0), units(50)) || !slices.Equal(y.Out(0), units(3, 4)) {
		t.Error(x.Size(), y.Size(), z.Size())
	}
}

func TestLongestByName(t *testing.T) { // P4.3
	x := of(t, []api.Rule{single(1, 10), one(units(1, 2, 3), units(11)), one(units(5, 6), units(12)), one(units(1, 2, 3, 4, 5), units(13))})
	for k, y := range []struct {
		us   []int
		k, n int
		open bool
	}{
		{nil, -1, 0, true},
		{units(1), 0, 1, true},
		{units(1, 2), 0, 1, true},
		{units(1, 2, 3), 1, 3, true},
		{units(1, 2, 3, 4), 1, 3, true},
		{units(1, 2, 3, 4, 5), 3, 5, false},
		{units(1, 2, 3, 4, 5, 6), 3, 5, false},
		{units(1, 2, 3, 4, 4), 1, 3, false},
		{units(1, 2, 3, 5), 1, 3, false},
		{units(1, 2, 1), 0, 1, false},
		{units(1, 1), 0, 1, false},
		{units(5), -1, 0, true},
		{units(5, 6), 2, 2, false},
		{units(5, 1), -1, 0, false},
		{units(2), -1, 0, false},
		{units(2, 3), -1, 0, false},
		{units(6, 5), -1, 0, false},
		{units(-1), -1, 0, false},
		{units(1, math.MaxInt), 0, 1, false},
		{units(math.MinInt, 1), -1, 0, false},
	} {
		if at, n, open := x.Longest(y.us); at != y.k || n != y.n || open != y.open {
			t.Errorf("%d: Longest of %v is %d, %d, %v", k, y.us, at, n, open)
		}
	}
}

func TestLongestIsAsItsWordsSay(t *testing.T) { // P4.3
	var all [][]int
	words(4, units(1, 2, 3), func(us []int) { all = append(all, us) })
	small(func(rs []api.Rule) {
		x := of(t, rs)
		for _, us := range all {
			found(t, x, rs, us)
		}
	})
}

func TestLongestAtTheBounds(t *testing.T) { // P4.3
	for shared := range api.MaxUnits {
		rs := deep(shared)
		x := of(t, rs)
		for _, k := range units(0, 1, 255, 510, 511) {
			for n := range api.MaxUnits + 1 {
				found(t, x, rs, rs[k].In[:n])
			}
			found(t, x, rs, append(slices.Clone(rs[k].In), 0))
		}
	}
	rs := broad()
	x := of(t, rs)
	for k, r := range rs {
		found(t, x, rs, r.In)
		found(t, x, rs, units(r.In[0], rs[(k+1)%len(rs)].In[0]))
		found(t, x, rs, units(r.In[0]+1))
	}
	// Of a long row the first units alone are looked at, however often it is asked for.
	long := make([]int, 1<<20)
	rs = []api.Rule{one(make([]int, 8), units(1))}
	x = of(t, rs)
	for range 1000 {
		if at, n, open := x.Longest(long); at != 0 || n != 8 || open {
			t.Fatal(at, n, open)
		}
	}
}

func TestZeroTrieDoesNotPanic(t *testing.T) { // W1
	x := &trie.Trie{}
	outside(t, x, 0)
	for _, us := range [][]int{nil, {}, units(0), strange()} {
		if at, n, open := x.Longest(us); at != -1 || n != 0 || open {
			t.Error(us, at, n, open)
		}
	}
	for _, k := range append(strange(), 0) {
		if len(x.Out(k)) != 0 {
			t.Error(k, x.Out(k))
		}
	}
	x.Size()
}
