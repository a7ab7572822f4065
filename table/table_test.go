package table_test

import (
	"fmt"
	"math"
	"slices"
	"testing"

	"lontar/api"
	"lontar/indic"
	"lontar/rewrite"
	"lontar/rule"
	"lontar/table"
	"lontar/tcvn"
	"lontar/trie"
	"lontar/viscii"
	"lontar/vni"
)

func units(us ...int) []int { return us }

func one(in, out []int) api.Rule { return api.Rule{In: in, Out: out} }

func single(in, out int) api.Rule { return one(units(in), units(out)) }

// good is a token of a rule, bad one of units that are not mapped.
func good(at, size int, out ...int) api.Token { return api.Token{At: at, Len: size, Out: out} }

func bad(at, size int) api.Token { return api.Token{At: at, Len: size, Err: api.ErrMap} }

func sameToken(a, b api.Token) bool {
	return a.At == b.At && a.Len == b.Len && a.Err == b.Err && slices.Equal(a.Out, b.Out)
}

func same(a, b []api.Token) bool { return slices.EqualFunc(a, b, sameToken) }

func sameRules(a, b []api.Rule) bool {
	return slices.EqualFunc(a, b, func(x, y api.Rule) bool { return slices.Equal(x.In, y.In) && slices.Equal(x.Out, y.Out) })
}

// copied are the same rules in memory of their own.
func copied(rs []api.Rule) []api.Rule {
	var own []api.Rule
	for _, r := range rs {
		own = append(own, one(slices.Clone(r.In), slices.Clone(r.Out)))
	}
	return own
}

// words are all rows of 1 to n units of those given.
func words(n int, of ...int) [][]int {
	var all [][]int
	last := [][]int{nil}
	for range n {
		var longer [][]int
		for _, us := range last {
			for _, u := range of {
				longer = append(longer, append(slices.Clone(us), u))
			}
		}
		all = append(all, longer...)
		last = longer
	}
	return all
}

// empty is the row of no units and those of words.
func empty(n int, of ...int) [][]int { return append([][]int{nil}, words(n, of...)...) }

// sets has f called for all sets of at most n of the Ins given, in their order.
func sets(n int, ins [][]int, f func(ins [][]int)) {
	var add func(some, rest [][]int)
	add = func(some, rest [][]int) {
		f(some)
		if len(some) == n {
			return
		}
		for k, in := range rest {
			add(append(slices.Clone(some), in), rest[k+1:])
		}
	}
	add(nil, ins)
}

// outs has f called for the Ins with all Outs of those given.
func outs(ins, of [][]int, f func(rs []api.Rule)) {
	var add func(rs []api.Rule)
	add = func(rs []api.Rule) {
		if len(rs) == len(ins) {
			f(rs)
			return
		}
		for _, out := range of {
			add(append(slices.Clone(rs), one(ins[len(rs)], out)))
		}
	}
	add(nil)
}

// apart are the Ins with one Out each that no other one has.
func apart(ins [][]int) []api.Rule {
	var rs []api.Rule
	for k, in := range ins {
		rs = append(rs, one(in, slices.Repeat(units(100+k), k%3+1)))
	}
	return rs
}

// fault is what P15.1 says of rules, word for word.
func fault(rs []api.Rule) api.Errno {
	if _, e := rule.Check(rs); e != 0 {
		return e
	}
	for _, r := range rs {
		for n := 1; n < len(r.In); n++ {
			p := r.In[:n]
			if rule.Find(rs, p) < 0 && (n != 1 || slices.ContainsFunc(rs, func(r api.Rule) bool { return r.In[len(r.In)-1] == p[0] })) {
				return api.ErrOrder
			}
		}
	}
	return 0
}

// told are rules in words; of many, how many they are.
func told(rs []api.Rule) string {
	if len(rs) > 16 {
		return fmt.Sprint(len(rs), " rules")
	}
	return fmt.Sprint(rs)
}

// made holds Of against an error; the Table, if there is one.
func made(t *testing.T, rs []api.Rule, want api.Errno) *table.Table {
	t.Helper()
	kept := copied(rs)
	x, e := table.Of(rs)
	if e != want || (x == nil) != (want != 0) {
		t.Fatalf("Of %s is %t, %d, not %d", told(rs), x != nil, e, want)
	}
	if !sameRules(rs, kept) {
		t.Fatalf("Of changed %s to %s", told(kept), told(rs))
	}
	return x
}

// of is the trie of rules that are valid.
func of(t *testing.T, rs []api.Rule) *trie.Trie {
	t.Helper()
	x, e := trie.Of(rs)
	if e != 0 {
		t.Fatal(rs, e)
	}
	return x
}

// alike holds a trie against the one of rules, node by node; their nodes may be numbered differently.
func alike(t *testing.T, x *trie.Trie, rs []api.Rule) {
	t.Helper()
	y := of(t, rs)
	if x.Size() != y.Size() {
		t.Fatalf("Size of %s is %d, not %d", told(rs), x.Size(), y.Size())
	}
	for k := -1; k <= len(rs); k++ {
		if !slices.Equal(x.Out(k), y.Out(k)) {
			t.Fatalf("Out %d of %s is %v", k, told(rs), x.Out(k))
		}
	}
	for _, r := range rs {
		a, b := 0, 0
		for _, u := range r.In {
			if x.Rule(a) != y.Rule(b) || x.Leaf(a) != y.Leaf(b) {
				t.Fatalf("within %v of %s: %d, %t", r.In, told(rs), x.Rule(a), x.Leaf(a))
			}
			var ok bool
			if a, ok = x.Step(a, u); !ok {
				t.Fatalf("%v is not in the trie of %s", r.In, told(rs))
			}
			b, _ = y.Step(b, u)
		}
		if x.Rule(a) != y.Rule(b) || x.Leaf(a) != y.Leaf(b) {
			t.Fatalf("at %v of %s: %d, %t", r.In, told(rs), x.Rule(a), x.Leaf(a))
		}
	}
}

// whole holds the tries and the lengths of a Table against P15.1.
func whole(t *testing.T, x *table.Table, rs []api.Rule) {
	t.Helper()
	turned := rule.Turn(rs)
	alike(t, x.Read(), rs)
	alike(t, x.Write(), turned)
	if in, out := x.Longest(); in != rule.Longest(rs) || out != rule.Longest(turned) {
		t.Fatalf("Longest of %s is %d, %d", told(rs), in, out)
	}
}

// joins is what P15.2 says, word for word.
func joins(rs []api.Rule, ahead, us []int) bool {
	all := slices.Concat(ahead, us)
	return len(ahead) > 0 && slices.ContainsFunc(rs, func(r api.Rule) bool {
		n := len(r.In)
		return n > len(ahead) && n <= len(all) && slices.Equal(all[:n], r.In)
	})
}

// join is what P15.3 says of one token, word for word.
func join(rs []api.Rule, ahead []int, x api.Token) api.Token {
	if x.Err == 0 && joins(rs, ahead, x.Out) {
		return api.Token{At: x.At, Len: x.Len, Err: api.ErrMap}
	}
	return x
}

// encode is what P15.3 says of units, word for word; ts are the tokens of rewrite.All.
func encode(rs []api.Rule, ts []api.Token) []api.Token {
	var done []api.Token
	for _, x := range ts {
		var ahead []int
		for k := len(done) - 1; k >= 0; k-- {
			if done[k].Err == 0 {
				ahead = done[k].Out
				break
			}
		}
		done = append(done, join(rs, ahead, x))
	}
	return done
}

// joined holds Joins, and Join of some tokens, against P15.2 and P15.3.
func joined(t *testing.T, x *table.Table, ahead, us []int, want bool) {
	t.Helper()
	front, back := slices.Clone(ahead), slices.Clone(us)
	if x.Joins(ahead, us) != want {
		t.Fatalf("Joins %v, %v is %t", ahead, us, !want)
	}
	for _, y := range []api.Token{good(3, 2, us...), good(-1, 0, us...), {At: 3, Len: 2, Out: us, Err: api.ErrMap}, {At: 7, Len: 1, Out: us, Err: api.ErrShort}, {Out: us, Err: -1}} {
		z := y
		if want && y.Err == 0 {
			z = bad(y.At, y.Len)
		}
		if got := x.Join(ahead, y); !sameToken(got, z) {
			t.Fatalf("Join %v, %v is %v, not %v", ahead, y, got, z)
		}
	}
	if !slices.Equal(ahead, front) || !slices.Equal(us, back) {
		t.Fatalf("Joins or Join changed %v, %v to %v, %v", front, back, ahead, us)
	}
}

// decoded and encoded hold the tokens of us against those expected.
func decoded(t *testing.T, x *table.Table, us []int, want []api.Token) {
	t.Helper()
	kept := slices.Clone(us)
	if ts := x.Decode(us); !same(ts, want) {
		t.Fatalf("Decode of %v is %v, not %v", kept, ts, want)
	}
	if !slices.Equal(us, kept) {
		t.Fatalf("Decode changed %v to %v", kept, us)
	}
}

func encoded(t *testing.T, x *table.Table, us []int, want []api.Token) {
	t.Helper()
	kept := slices.Clone(us)
	if ts := x.Encode(us); !same(ts, want) {
		t.Fatalf("Encode of %v is %v, not %v", kept, ts, want)
	}
	if !slices.Equal(us, kept) {
		t.Fatalf("Encode changed %v to %v", kept, us)
	}
}

// both is a test that holds Decode and Encode of units against P15.2 and P15.3.
func both(t *testing.T, x *table.Table, rs []api.Rule) func(us []int) {
	t.Helper()
	read, write := of(t, rs), of(t, rule.Turn(rs))
	return func(us []int) {
		t.Helper()
		decoded(t, x, us, rewrite.All(read, us))
		encoded(t, x, us, encode(rs, rewrite.All(write, us)))
	}
}

// back holds that what was written without a fault is read as it was.
func back(t *testing.T, x *table.Table, us []int) {
	t.Helper()
	written, wrong := rewrite.Units(x.Encode(us))
	if wrong.Err != 0 {
		return
	}
	if again, fault := rewrite.Units(x.Decode(written)); fault.Err != 0 || !slices.Equal(again, us) {
		t.Fatalf("%v is written as %v, which is read as %v, %v", us, written, again, fault)
	}
}

// example are the rules of the chapter, with a and b as numbers.
func example() []api.Rule {
	return []api.Rule{single('a', 1), one(units('a', 'b'), units(2)), single('b', 3)}
}

// chain are the Ins 1, 1 1, 1 1 1 .. up to eight units, each with an Out of its own.
func chain() []api.Rule {
	var rs []api.Rule
	for n := 1; n <= api.MaxUnits; n++ {
		rs = append(rs, one(slices.Repeat(units(1), n), slices.Repeat(units(10+n), 9-n)))
	}
	return rs
}

// broad are 512 rules of one unit each, in no order.
func broad() []api.Rule {
	var rs []api.Rule
	for k := range api.MaxRules {
		rs = append(rs, single(k*2039%0x110000, k))
	}
	return rs
}

// pairs are 512 rules whose Ins have two units, and whose first units end no In.
func pairs() []api.Rule {
	var rs []api.Rule
	for k := range api.MaxRules {
		rs = append(rs, one(units(k, 1000+k%7), units(k/2)))
	}
	return rs
}

// deep are 512 rules: seven Ins that each begin by the one ahead, and 505 of eight units that begin by the seventh.
func deep() []api.Rule {
	rs := chain()[:7]
	for k := range api.MaxRules - 7 {
		rs = append(rs, one(append(slices.Repeat(units(1), 7), 2000+k), slices.Repeat(units(k), k%8+1)))
	}
	slices.Reverse(rs)
	return rs
}

func TestOfByName(t *testing.T) { // P15.1
	for _, y := range []struct {
		rs   []api.Rule
		want api.Errno
	}{
		{nil, 0},
		{[]api.Rule{}, 0},
		{example(), 0},
		{[]api.Rule{single(1, 1)}, 0},
		{[]api.Rule{single(0, 0x10ffff), single(0x10ffff, 0), one(units(0, 0x10ffff), units(0xd800))}, 0},
		// The order of the rules does not matter: what an In begins by may stand behind it.
		{[]api.Rule{one(units(1, 2, 3), units(1)), one(units(1, 2), units(2)), single(1, 3)}, 0},
		{[]api.Rule{one(units(1, 2), units(1)), single(1, 2), one(units(1, 2, 3), units(3))}, 0},
		{[]api.Rule{one(units(1, 2, 3), units(1)), single(1, 3), single(2, 4), single(3, 5), one(units(2, 3), units(6))}, api.ErrOrder},
		{[]api.Rule{single(1, 3), single(2, 4), one(units(1, 2, 3), units(1))}, api.ErrOrder},
		// A first unit that no In ends by.
		{[]api.Rule{one(units(9, 4), units(1))}, 0},
		{[]api.Rule{one(units(9, 4), units(1)), one(units(9, 5), units(2)), one(units(8, 4), units(3))}, 0},
		{[]api.Rule{one(units(9, 4), units(1)), one(units(9, 4, 9, 4), units(2))}, api.ErrOrder},
		{[]api.Rule{one(units(9, 4), units(1)), one(units(9, 4, 5), units(2))}, 0},
		{[]api.Rule{one(units(9, 4, 5), units(1))}, api.ErrOrder},
		{[]api.Rule{one(units(9, 4, 5), units(1)), single(4, 2), single(5, 3), one(units(4, 5), units(4))}, api.ErrOrder},
		// A first unit that an In ends by: a later one, an earlier one, a longer one, and itself.
		{[]api.Rule{one(units(9, 4), units(1)), one(units(3, 9), units(2))}, api.ErrOrder},
		{[]api.Rule{one(units(3, 9), units(2)), one(units(9, 4), units(1))}, api.ErrOrder},
		{[]api.Rule{single(3, 7), one(units(3, 9), units(2)), one(units(9, 4), units(1)), single(9, 8)}, 0},
		{[]api.Rule{single(3, 7), one(units(3, 4), units(2)), one(units(3, 4, 9), units(6)), one(units(9, 4), units(1))}, api.ErrOrder},
		{[]api.Rule{one(units(4, 4), units(1))}, api.ErrOrder},
		{[]api.Rule{one(units(4, 4), units(1)), single(4, 2)}, 0},
		// The Outs do not matter.
		{[]api.Rule{one(units(1), units(5, 6, 7)), one(units(2), units(5, 6, 7)), one(units(3), units(7, 5))}, 0},
		{[]api.Rule{one(units(9, 4), units(9)), single(4, 9)}, 0},
		// A table that has both faults has that of rule.Check.
		{[]api.Rule{one(units(7, 8, 6), units(1)), single(1, 1), single(1, 2)}, api.ErrTwice},
		{[]api.Rule{one(units(4, 4), units(1)), one(units(4, 4), units(1))}, api.ErrTwice},
		{[]api.Rule{one(units(4, 4), units(1)), single(-1, 1)}, api.ErrArgument},
		{[]api.Rule{one(units(4, 4), units(1)), single(1, 0x110000)}, api.ErrArgument},
		{[]api.Rule{one(nil, units(1))}, api.ErrArgument},
		{[]api.Rule{one(units(1), nil)}, api.ErrArgument},
		{[]api.Rule{one(make([]int, 9), units(1))}, api.ErrArgument},
		{[]api.Rule{one(units(1), make([]int, 9))}, api.ErrArgument},
		{[]api.Rule{one(units(4, 4), units(1)), single(math.MinInt, 1), single(math.MaxInt, 1)}, api.ErrArgument},
		{append(broad(), single(1, 1)), api.ErrLimit},
		{append(broad()[:511], one(units(1, 1), units(1))), api.ErrOrder},
		{append(broad()[:511], one(units(1, 1), units(1)), single(1, 1)), api.ErrLimit},
	} {
		x := made(t, y.rs, y.want)
		if e := fault(y.rs); e != y.want {
			t.Errorf("P15.1 has %d for %s, not %d", e, told(y.rs), y.want)
		}
		if x != nil {
			whole(t, x, y.rs)
		}
	}
}

func TestOfIsAsItsWordsSay(t *testing.T) { // P15.1
	for _, all := range [][][]int{words(3, 1, 2), words(2, 0, 1, 0x10ffff), append(words(1, 1, 2, 3), words(1, 1, 2, 3)...)} {
		count := map[api.Errno]int{}
		sets(len(all), all, func(ins [][]int) {
			rs := apart(ins)
			for range 2 {
				e := fault(rs)
				if x := made(t, rs, e); x != nil {
					whole(t, x, rs)
				}
				count[e]++
				slices.Reverse(rs)
			}
		})
		if count[0] < 16 || len(count) != 2 {
			t.Error(count)
		}
	}
}

func TestOfAtTheBounds(t *testing.T) { // P15.1
	for _, rs := range [][]api.Rule{chain(), broad(), pairs(), deep()} {
		whole(t, made(t, rs, 0), rs)
		slices.Reverse(rs)
		whole(t, made(t, rs, 0), rs)
	}
	// One In that others begin by is missing.
	for k := range 7 {
		made(t, slices.Delete(chain(), k, k+1), api.ErrOrder)
		rs := deep()
		slices.Reverse(rs)
		made(t, slices.Delete(rs, k, k+1), api.ErrOrder)
	}
	made(t, chain()[:7], 0)
	// A last In that ends by a unit that others begin with.
	for k := range api.MaxRules - 1 {
		rs := pairs()
		rs[511] = single(k, 1)
		made(t, rs, 0)
		rs[511] = one(units(5000, k), units(1))
		made(t, rs, api.ErrOrder)
	}
}

func TestLongest(t *testing.T) { // P15.1
	for _, y := range []struct {
		rs      []api.Rule
		in, out int
	}{
		{nil, 0, 0},
		{[]api.Rule{single(1, 2)}, 1, 1},
		{[]api.Rule{one(units(1), make([]int, 8))}, 1, 8},
		{[]api.Rule{one(units(1, 2), units(3)), single(1, 4)}, 2, 1},
		{[]api.Rule{single(1, 4), one(units(1, 2), units(3)), one(units(5), units(3, 3, 3))}, 2, 3},
		{chain(), 8, 8},
		{chain()[:3], 3, 8},
		{chain()[:1], 1, 8},
	} {
		if in, out := made(t, y.rs, 0).Longest(); in != y.in || out != y.out {
			t.Errorf("Longest of %v is %d, %d, not %d, %d", y.rs, in, out, y.in, y.out)
		}
	}
}

func TestReadAndWriteByName(t *testing.T) { // P15.1
	x := made(t, []api.Rule{single(1, 10), one(units(1, 2), units(11, 12)), single(2, 10)}, 0)
	for _, y := range []struct {
		x    *trie.Trie
		us   []int
		k, n int
		open bool
		out  []int
	}{
		{x.Read(), units(1, 2, 1), 1, 2, false, units(11, 12)},
		{x.Read(), units(1), 0, 1, true, units(10)},
		{x.Read(), units(2), 2, 1, false, units(10)},
		{x.Read(), units(10), -1, 0, false, nil},
		// Of two rules with the same Out, the first one is written.
		{x.Write(), units(10), 0, 1, false, units(1)},
		{x.Write(), units(11), -1, 0, true, nil},
		{x.Write(), units(11, 12), 1, 2, false, units(1, 2)},
		{x.Write(), units(2), -1, 0, false, nil},
	} {
		k, n, open := y.x.Longest(y.us)
		if k != y.k || n != y.n || open != y.open || !slices.Equal(y.x.Out(k), y.out) {
			t.Errorf("Longest of %v is %d, %d, %t", y.us, k, n, open)
		}
	}
}

func TestJoinsByName(t *testing.T) { // P15.2, P15.3
	x := made(t, []api.Rule{single(1, 10), one(units(1, 2), units(11)), one(units(1, 2, 3), units(12)), one(units(1, 2, 3, 4), units(13)), single(2, 14), one(units(9, 4), units(15)), one(units(9, 4, 4), units(16))}, 0)
	for _, y := range []struct {
		ahead, us []int
		want      bool
	}{
		{units(1), units(2), true},
		{units(1), units(2, 9), true},
		{units(1), units(2, 3, 4, 5), true},
		{units(1, 2), units(3), true},
		{units(1, 2, 3), units(4, 4), true},
		{units(9), units(4), true},
		{units(9, 4), units(4), true},
		// No longer In begins there, but perhaps one as long, or one that is not whole.
		{units(1), units(1), false},
		{units(1), units(3), false},
		{units(1), nil, false},
		{units(1, 2), nil, false},
		{units(1, 2), units(), false},
		{units(1, 2), units(4), false},
		{units(1, 2, 3), units(2), false},
		{units(1, 2, 3, 4), units(5), false},
		{units(1, 2, 3, 4), nil, false},
		{units(1, 2, 3, 4, 5), units(6), false},
		{units(9, 4), units(9, 4), false},
		{units(9), units(9, 4), false},
		{units(2), units(1, 2), false},
		{units(5), units(1, 2), false},
		{units(5, 1), units(2), false},
		// Nothing stands ahead.
		{nil, units(1, 2), false},
		{units(), units(1), false},
		{nil, nil, false},
		{units(-1), units(2), false},
		{units(1), units(-2), false},
		{units(1<<32 + 1), units(2), false},
		{units(math.MinInt, math.MaxInt), units(math.MaxInt), false},
	} {
		joined(t, x, y.ahead, y.us, y.want)
	}
}

func TestJoinsIsAsItsWordsSay(t *testing.T) { // P15.2, P15.3
	aheads, behind := empty(4, 1, 2), empty(3, 1, 2, 3)
	n := 0
	sets(6, words(3, 1, 2), func(ins [][]int) {
		rs := apart(ins)
		if fault(rs) != 0 {
			return
		}
		x := made(t, rs, 0)
		for _, ahead := range aheads {
			for _, us := range behind {
				joined(t, x, ahead, us, joins(rs, ahead, us))
			}
		}
		n++
	})
	if n < 16 {
		t.Error(n)
	}
}

func TestJoinsAtTheBounds(t *testing.T) { // P15.2, P15.3
	x := made(t, chain(), 0)
	for n := range 12 {
		ahead := slices.Repeat(units(1), n)
		joined(t, x, ahead, units(1), n > 0 && n < 8)
		joined(t, x, ahead, units(2, 1), false)
		joined(t, x, ahead, slices.Repeat(units(1), 20), n > 0 && n < 8)
		joined(t, x, append(ahead, 2), units(1), false)
	}
	long := slices.Repeat(units(1), 1<<20)
	joined(t, x, long, long, false)
	joined(t, x, units(1), long, true)
	joined(t, x, long, units(1), false)
	joined(t, x, slices.Repeat(units(1), 7), long, true)
	y := made(t, []api.Rule{single(0x10ffff, 1), one(units(0x10ffff, 0), units(2))}, 0)
	joined(t, y, units(0x10ffff), units(0), true)
	joined(t, y, units(0x10ffff), units(0x10ffff), false)
	joined(t, y, units(0), units(0x10ffff, 0), false)
	// Only the last rule has the In.
	z := made(t, deep(), 0)
	for k := range api.MaxRules - 7 {
		joined(t, z, slices.Repeat(units(1), 7), units(2000+k), true)
		joined(t, z, slices.Repeat(units(1), 6), units(2000+k), false)
		joined(t, z, slices.Repeat(units(1), 6), units(1, 2000+k), true)
	}
}

func TestJoinByName(t *testing.T) { // P15.3
	x := made(t, example(), 0)
	for _, y := range []struct {
		ahead   []int
		x, want api.Token
	}{
		{units('a'), good(1, 1, 'b'), bad(1, 1)},
		{units('a'), good(5, 3, 'b', 'b'), bad(5, 3)},
		{units('a'), good(math.MinInt, math.MaxInt, 'b'), bad(math.MinInt, math.MaxInt)},
		{units('a'), good(1, 1, 'a'), good(1, 1, 'a')},
		{units('b'), good(1, 1, 'b'), good(1, 1, 'b')},
		{units('a', 'b'), good(1, 1, 'b'), good(1, 1, 'b')},
		{nil, good(0, 1, 'a', 'b'), good(0, 1, 'a', 'b')},
		{units('a'), good(1, 1), good(1, 1)},
		{units('a'), api.Token{}, api.Token{}},
		{units('a'), bad(2, 4), bad(2, 4)},
		// A token that is wrong already remains so, with its Out.
		{units('a'), api.Token{At: 1, Len: 2, Out: units('b'), Err: api.ErrShort}, api.Token{At: 1, Len: 2, Out: units('b'), Err: api.ErrShort}},
		{units('a'), api.Token{At: 1, Len: 2, Out: units('b'), Err: api.ErrMap}, api.Token{At: 1, Len: 2, Out: units('b'), Err: api.ErrMap}},
		{units('a'), api.Token{Out: units('b'), Err: -7}, api.Token{Out: units('b'), Err: -7}},
	} {
		if got := x.Join(y.ahead, y.x); !sameToken(got, y.want) {
			t.Errorf("Join %v, %v is %v, not %v", y.ahead, y.x, got, y.want)
		}
	}
}

func TestDecodeByName(t *testing.T) { // P15.2
	x := made(t, example(), 0)
	for _, y := range []struct {
		us   []int
		want []api.Token
	}{
		{nil, nil},
		{units(), nil},
		{units('a'), []api.Token{good(0, 1, 1)}},
		{units('a', 'b'), []api.Token{good(0, 2, 2)}},
		{units('b', 'a', 'a', 'b', 'b'), []api.Token{good(0, 1, 3), good(1, 1, 1), good(2, 2, 2), good(4, 1, 3)}},
		{units('c', 'a', -1, 'b', math.MaxInt), []api.Token{bad(0, 1), good(1, 1, 1), bad(2, 1), good(3, 1, 3), bad(4, 1)}},
		{units(1, 2, 3), []api.Token{bad(0, 1), bad(1, 1), bad(2, 1)}},
	} {
		decoded(t, x, y.us, y.want)
	}
}

func TestEncodeByName(t *testing.T) { // P15.3
	x := made(t, append(example(), one(units('c'), units(4, 4, 4)), single('d', 3)), 0)
	for _, y := range []struct {
		us   []int
		want []api.Token
	}{
		{nil, nil},
		{units(), nil},
		{units(1), []api.Token{good(0, 1, 'a')}},
		{units(2), []api.Token{good(0, 1, 'a', 'b')}},
		// The chapter's example.
		{units(1, 3), []api.Token{good(0, 1, 'a'), bad(1, 1)}},
		{units(3, 1), []api.Token{good(0, 1, 'b'), good(1, 1, 'a')}},
		{units(2, 3), []api.Token{good(0, 1, 'a', 'b'), good(1, 1, 'b')}},
		{units(1, 1, 1), []api.Token{good(0, 1, 'a'), good(1, 1, 'a'), good(2, 1, 'a')}},
		{units(1, 4, 4, 4, 3), []api.Token{good(0, 1, 'a'), good(1, 3, 'c'), good(4, 1, 'b')}},
		// What stands ahead is the last token that is not wrong, however many wrong ones are between.
		{units(1, 3, 3), []api.Token{good(0, 1, 'a'), bad(1, 1), bad(2, 1)}},
		{units(1, 9, 3), []api.Token{good(0, 1, 'a'), bad(1, 1), bad(2, 1)}},
		{units(1, 9, 4, 4, -1, 3, 1, 3, 2, 3), []api.Token{good(0, 1, 'a'), bad(1, 1), bad(2, 1), bad(3, 1), bad(4, 1), bad(5, 1), good(6, 1, 'a'), bad(7, 1), good(8, 1, 'a', 'b'), good(9, 1, 'b')}},
		{units(9, 3), []api.Token{bad(0, 1), good(1, 1, 'b')}},
		{units('a', 'b'), []api.Token{bad(0, 1), bad(1, 1)}},
		{units(math.MinInt, 1<<32+1, 1), []api.Token{bad(0, 1), bad(1, 1), good(2, 1, 'a')}},
	} {
		encoded(t, x, y.us, y.want)
	}
	// Only the last token stands ahead, not what is ahead of that one; and a token of several units is wrong as a whole.
	z := made(t, []api.Rule{single(1, 1), one(units(1, 2), units(2)), one(units(1, 2, 3), units(3)), single(3, 4), one(units(2), units(5, 5)), single(4, 6), one(units(3, 1), units(7, 7, 7))}, 0)
	encoded(t, z, units(1, 4), []api.Token{good(0, 1, 1), good(1, 1, 3)})
	encoded(t, z, units(2, 4), []api.Token{good(0, 1, 1, 2), bad(1, 1)})
	encoded(t, z, units(2, 5, 5, 4), []api.Token{good(0, 1, 1, 2), good(1, 2, 2), good(3, 1, 3)})
	encoded(t, z, units(1, 5, 5, 6), []api.Token{good(0, 1, 1), bad(1, 2), good(3, 1, 4)})
	encoded(t, z, units(2, 7, 7, 7, 6), []api.Token{good(0, 1, 1, 2), bad(1, 3), good(4, 1, 4)})
	encoded(t, z, units(4, 1, 5, 5, 4), []api.Token{good(0, 1, 3), bad(1, 1), good(2, 2, 2), good(4, 1, 3)})
}

func TestBothAreAsTheirWordsSay(t *testing.T) { // P15.2, P15.3
	rows := empty(5, 1, 2)
	n := 0
	sets(3, words(2, 1, 2), func(ins [][]int) {
		outs(ins, words(2, 1, 2), func(rs []api.Rule) {
			if fault(rs) != 0 {
				return
			}
			n++
			if n%2 == 0 {
				slices.Reverse(rs)
			}
			x := made(t, rs, 0)
			hold := both(t, x, rs)
			for _, us := range rows {
				hold(us)
				back(t, x, us)
			}
		})
	})
	if n < 500 {
		t.Error(n)
	}
}

func TestBothOfLongerRules(t *testing.T) { // P15.2, P15.3
	n := 0
	sets(6, words(3, 1, 2), func(ins [][]int) {
		var rs []api.Rule
		for k, in := range ins {
			rs = append(rs, single(0, k+1))
			rs[k].In = in
		}
		if fault(rs) != 0 {
			return
		}
		n++
		x := made(t, rs, 0)
		hold := both(t, x, rs)
		for _, us := range words(4, units(0, 1, 2, 3, 4, 5, 6)[:len(rs)+1]...) {
			hold(us)
			back(t, x, us)
		}
	})
	if n < 16 {
		t.Error(n)
	}
}

func TestBothAtTheBounds(t *testing.T) { // P15.2, P15.3
	for _, rs := range [][]api.Rule{chain(), broad(), pairs(), deep()} {
		x := made(t, rs, 0)
		hold := both(t, x, rs)
		var us []int
		for _, r := range rs {
			us = slices.Concat(us, r.In, r.Out)
			hold(r.In)
			hold(r.Out)
		}
		hold(us)
		slices.Reverse(us)
		hold(us)
	}
}

func TestBothOfALongRow(t *testing.T) { // P15.2, P15.3, W1
	const size = 1 << 20
	x := made(t, []api.Rule{single(1, 1), one(units(1, 1), units(2))}, 0)
	if ts := x.Decode(slices.Repeat(units(1), size+1)); len(ts) != size/2+1 || !sameToken(ts[size/2], good(size, 1, 1)) {
		t.Error(len(ts))
	}
	ts := x.Encode(slices.Repeat(units(1), size))
	if len(ts) != size || !sameToken(ts[0], good(0, 1, 1)) {
		t.Fatal(len(ts))
	}
	for k, y := range ts[1:] {
		if !sameToken(y, bad(k+1, 1)) {
			t.Fatal(k, y)
		}
	}
	if _, wrong := rewrite.Units(x.Encode(slices.Repeat(units(2), size))); wrong.Err != 0 {
		t.Error(wrong)
	}
}

func TestTheRulesOfTheCodecs(t *testing.T) { // P15.1, P15.2, P15.3
	for k, y := range []struct {
		rs      []api.Rule
		in, out int
	}{{viscii.Rules(), 1, 1}, {tcvn.Rules(), 1, 1}, {vni.Rules(), 2, 1}, {indic.Rules(), 2, 2}} {
		x := made(t, y.rs, 0)
		whole(t, x, y.rs)
		if in, out := x.Longest(); in != y.in || out != y.out {
			t.Error(k, in, out)
		}
		hold := both(t, x, y.rs)
		for _, a := range y.rs {
			for _, b := range y.rs {
				us := slices.Concat(a.Out, b.Out)
				hold(us)
				hold(slices.Concat(a.In, b.In))
				back(t, x, us)
			}
		}
	}
	// In VNI a letter may have two bytes.
	x := made(t, vni.Rules(), 0)
	decoded(t, x, units('e', 0xe1), []api.Token{good(0, 2, 0x1ebf)})
	encoded(t, x, units(0x1ebf, 'n'), []api.Token{good(0, 1, 'e', 0xe1), good(1, 1, 'n')})
}

func TestTableWithoutRules(t *testing.T) { // P15.1, P15.2, P15.3, W1
	for _, x := range []*table.Table{made(t, nil, 0), made(t, []api.Rule{}, 0), {}} {
		if in, out := x.Longest(); in != 0 || out != 0 {
			t.Error(in, out)
		}
		for _, y := range []*trie.Trie{x.Read(), x.Write()} {
			if k, n, open := y.Longest(units(1)); k != -1 || n != 0 || open || !y.Leaf(0) {
				t.Error(k, n, open)
			}
		}
		decoded(t, x, nil, nil)
		encoded(t, x, nil, nil)
		decoded(t, x, units(0, -1), []api.Token{bad(0, 1), bad(1, 1)})
		encoded(t, x, units(0, -1), []api.Token{bad(0, 1), bad(1, 1)})
		for _, us := range empty(2, 0, 1, -1) {
			joined(t, x, us, us, false)
			joined(t, x, nil, us, false)
			joined(t, x, us, nil, false)
		}
	}
}

func TestTableSharesNothing(t *testing.T) { // P15.1, P15.2, P15.3, W2, W6
	rs := []api.Rule{single(1, 10), one(units(1, 2), units(11, 12)), single(2, 13)}
	kept := copied(rs)
	x := made(t, rs, 0)
	rs[0].In[0], rs[1].In[1], rs[1].Out[0], rs[2].Out[0] = 5, 6, 7, 8
	rs[2] = single(9, 9)
	whole(t, x, kept)
	// What is handed out may be written to.
	x.Read().Out(1)[0], x.Write().Out(1)[0] = 99, 98
	*x.Read(), *x.Write() = trie.Trie{}, *of(t, nil)
	whole(t, x, kept)
	us := units(1, 2, 2, 1, 10)
	ts := x.Decode(us)
	ts[0].Out[0], ts[1].Out[0] = 97, 96
	_ = append(ts[1].Out, 95)
	us[3], us[4] = 4, 4
	if !same(ts[2:], []api.Token{good(3, 1, 10), bad(4, 1)}) {
		t.Error(ts)
	}
	decoded(t, x, units(1, 2, 2), []api.Token{good(0, 2, 11, 12), good(2, 1, 13)})
	us = units(11, 12, 10, 13, 13, 10)
	want := []api.Token{good(0, 2, 1, 2), good(2, 1, 1), bad(3, 1), bad(4, 1), good(5, 1, 1)}
	ts = x.Encode(us)
	ts[1].Out[0] = 94
	_ = append(ts[0].Out, 93)
	us[5] = 4
	if !sameToken(ts[0], want[0]) || !same(ts[2:], want[2:]) {
		t.Error(ts)
	}
	// The same again: an Encode does not hang on the ones ahead of it.
	encoded(t, x, units(11, 12, 10, 13, 13, 10), want)
	encoded(t, x, units(13), []api.Token{good(0, 1, 2)})
	whole(t, x, kept)
}

func TestAheadHasRoomBehind(t *testing.T) { // P15.2, P15.3, W6
	x := made(t, example(), 0)
	room := units('a', 'z', 'z', 'z')
	if !x.Joins(room[:1], units('b', 'c')) || !sameToken(x.Join(room[:1], good(0, 1, 'b', 'c')), bad(0, 1)) {
		t.Error("joins")
	}
	if !slices.Equal(room, units('a', 'z', 'z', 'z')) {
		t.Error(room)
	}
	if x.Joins(room[:1], nil) || x.Joins(nil, nil) {
		t.Error("joins nothing")
	}
}
