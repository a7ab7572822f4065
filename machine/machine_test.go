package machine_test

import (
	"math"
	"slices"
	"testing"

	"lontar/api"
	"lontar/indic"
	"lontar/machine"
	"lontar/match"
	"lontar/rewrite"
	"lontar/rule"
	"lontar/table"
	"lontar/tcvn"
	"lontar/trie"
	"lontar/viscii"
	"lontar/vni"
)

func units(us ...int) []int { return us }

func one(in, out []int) api.Rule { return api.Rule{In: in, Out: out} }

func single(in, out int) api.Rule { return one(units(in), units(out)) }

// good is a token of a rule, bad one of units that are not mapped.
func good(at, size int, out ...int) api.Token { return api.Token{At: at, Len: size, Out: out} }

func bad(at, size int) api.Token { return api.Token{At: at, Len: size, Err: api.ErrMap} }

func list(ts ...api.Token) []api.Token { return ts }

func sameToken(a, b api.Token) bool {
	return a.At == b.At && a.Len == b.Len && a.Err == b.Err && slices.Equal(a.Out, b.Out)
}

func same(a, b []api.Token) bool { return slices.EqualFunc(a, b, sameToken) }

func tokens(t *testing.T, got []api.Token, want ...api.Token) {
	t.Helper()
	if !same(got, want) {
		t.Fatal("tokens", got, "not", want)
	}
}

// held holds how many units wait; asking twice must not change it.
func held(t *testing.T, m machine.Machine, want int) {
	t.Helper()
	for range 2 {
		if m.Held() != want {
			t.Fatal(m.Held(), "wait, not", want)
		}
	}
}

// of is the table of rules that may be one.
func of(t *testing.T, rs ...api.Rule) *table.Table {
	t.Helper()
	x, e := table.Of(rs)
	if x == nil || e != 0 {
		t.Fatal(len(rs), "rules:", e)
	}
	return x
}

// trieOf is the trie of rules that are right.
func trieOf(t *testing.T, rs []api.Rule) *trie.Trie {
	t.Helper()
	x, e := trie.Of(rs)
	if e != 0 {
		t.Fatal(len(rs), "rules:", e)
	}
	return x
}

// end and apart stand among units for a call of End, and of Apart.
const (
	end   = math.MinInt + 1
	apart = math.MinInt + 2
)

// step is one call: of End, of Apart if the machine has it, or of Put with a unit.
func step(m machine.Machine, u int) []api.Token {
	switch u {
	case end:
		return m.End()
	case apart:
		if e, ok := m.(*machine.Encoder); ok {
			e.Apart()
		}
		return nil
	}
	return m.Put(u)
}

// run is the tokens of all steps.
func run(m machine.Machine, us ...int) []api.Token {
	var ts []api.Token
	for _, u := range us {
		ts = append(ts, step(m, u)...)
	}
	return ts
}

// join is what P15.3 says of one token, word for word.
func join(rs []api.Rule, ahead []int, x api.Token) api.Token {
	all := slices.Concat(ahead, x.Out)
	if x.Err == 0 && len(ahead) > 0 && slices.ContainsFunc(rs, func(r api.Rule) bool {
		n := len(r.In)
		return n > len(ahead) && n <= len(all) && slices.Equal(all[:n], r.In)
	}) {
		return bad(x.At, x.Len)
	}
	return x
}

// model does what P16.2 says, word for word; told are the tokens since the last call of Apart.
type model struct {
	rules []api.Rule
	match *match.Match
	told  []api.Token
}

// ahead is the Out of the last token told that is not wrong.
func (m *model) ahead() []int {
	for k := len(m.told) - 1; k >= 0; k-- {
		if m.told[k].Err == 0 {
			return m.told[k].Out
		}
	}
	return nil
}

func (m *model) step(u int) []api.Token {
	if u == apart {
		m.told = nil
		return nil
	}
	var ts []api.Token
	for _, x := range step(m.match, u) {
		y := join(m.rules, m.ahead(), x)
		m.told = append(m.told, y)
		ts = append(ts, y)
	}
	return ts
}

// encoding is a test that holds an Encoder against the model, step by step.
func encoding(t *testing.T, x *table.Table, rs []api.Rule) func(us []int) {
	t.Helper()
	write := trieOf(t, rule.Turn(rs))
	return func(us []int) {
		t.Helper()
		m, w := machine.Encode(x), &model{rules: rs, match: match.Of(write)}
		for k, u := range us {
			got, want := step(m, u), w.step(u)
			if !same(got, want) {
				t.Fatalf("step %d of %v by %v is %v, not %v", k, us, rs, got, want)
			}
			if m.Held() != w.match.Held() || m.Held() >= api.MaxUnits {
				t.Fatalf("behind step %d of %v by %v wait %d, not %d", k, us, rs, m.Held(), w.match.Held())
			}
		}
	}
}

// decoding is a test that holds the Machine of Decode against the Match of P16.1, step by step.
func decoding(t *testing.T, x *table.Table, rs []api.Rule) func(us []int) {
	t.Helper()
	read := trieOf(t, rs)
	return func(us []int) {
		t.Helper()
		m, w := machine.Decode(x), match.Of(read)
		for k, u := range us {
			got, want := step(m, u), step(w, u)
			if !same(got, want) {
				t.Fatalf("step %d of %v by %v is %v, not %v", k, us, rs, got, want)
			}
			if m.Held() != w.Held() || m.Held() >= api.MaxUnits {
				t.Fatalf("behind step %d of %v by %v wait %d, not %d", k, us, rs, m.Held(), w.Held())
			}
		}
	}
}

// rows are all rows of exactly n of the units given.
func rows(n int, from ...int) [][]int {
	all := [][]int{nil}
	for range n {
		var longer [][]int
		for _, us := range all {
			for _, u := range from {
				longer = append(longer, append(slices.Clone(us), u))
			}
		}
		all = longer
	}
	return all
}

// small has f called for all tables of at most most rules with the Ins and the Outs given; every other one has its rules the other way round.
func small(most int, ins, outs [][]int, f func(x *table.Table, rs []api.Rule)) int {
	n := 0
	var add func(rs []api.Rule, rest [][]int)
	add = func(rs []api.Rule, rest [][]int) {
		own := slices.Clone(rs)
		if x, e := table.Of(own); e == 0 {
			n++
			if n%2 == 0 {
				slices.Reverse(own)
				x, _ = table.Of(own)
			}
			f(x, own)
		}
		if len(rs) == most {
			return
		}
		for k, in := range rest {
			for _, out := range outs {
				add(append(slices.Clone(rs), one(in, out)), rest[k+1:])
			}
		}
	}
	add(nil, ins)
	return n
}

// chain are the Ins 1, 1 1, 1 1 1 .. up to eight units, each with as many units of 2 as Out: the longest In has the shortest Out.
func chain() []api.Rule {
	var rs []api.Rule
	for n := 1; n <= api.MaxUnits; n++ {
		rs = append(rs, one(slices.Repeat(units(1), n), slices.Repeat(units(2), 9-n)))
	}
	return rs
}

// broad are 512 rules of one unit each, in no order.
func broad() []api.Rule {
	var rs []api.Rule
	for k := range api.MaxRules {
		rs = append(rs, single(k*2039%0x110000, k))
	}
	return rs
}

// deep are 512 rules: seven Ins that each begin by the one ahead, and 505 of eight units that begin by the seventh; the Outs share their first units as well.
func deep() []api.Rule {
	rs := chain()[:7]
	for k := range api.MaxRules - 7 {
		rs = append(rs, one(append(slices.Repeat(units(1), 7), 2000+k), append(slices.Repeat(units(3), k%8), 4000+k)))
	}
	slices.Reverse(rs)
	return rs
}

// example are rules by which some units can't be written behind others, and by which units wait both ways.
func example() []api.Rule {
	return []api.Rule{single(1, 10), one(units(1, 2), units(11)), single(2, 12), one(units(3), units(12, 12)), one(units(1, 2, 3), units(12, 13, 14)), one(units(3, 2), units(14)), one(units(4, 4), units(13)), single(4, 15)}
}

func TestDecodeByName(t *testing.T) { // P16.1
	m := machine.Decode(of(t, example()...))
	held(t, m, 0)
	tokens(t, m.End())
	tokens(t, m.Put(1))
	held(t, m, 1)
	tokens(t, m.Put(2))
	held(t, m, 2)
	tokens(t, m.Put(3), good(0, 3, 12, 13, 14))
	held(t, m, 0)
	tokens(t, m.Put(9), bad(3, 1))
	tokens(t, m.Put(2), good(4, 1, 12))
	tokens(t, m.Put(1))
	// What can't become a longer In is taken, and its last unit waits on.
	tokens(t, m.Put(1), good(5, 1, 10))
	held(t, m, 1)
	tokens(t, m.Put(3), good(6, 1, 10))
	held(t, m, 1)
	tokens(t, m.Put(4), good(7, 1, 12, 12))
	tokens(t, m.Put(4), good(8, 2, 13))
	tokens(t, run(m, 1, 2))
	held(t, m, 2)
	tokens(t, m.End(), good(10, 2, 11))
	held(t, m, 0)
	// Nothing that is read may not stand behind another thing.
	tokens(t, run(m, 1, end, 2, 1, end, 2, 3, end, 2), good(12, 1, 10), good(13, 1, 12), good(14, 1, 10), good(15, 1, 12), good(16, 1, 12, 12), good(17, 1, 12))
	tokens(t, m.Put(1))
	tokens(t, m.Put(-1), good(18, 1, 10), bad(19, 1))
	tokens(t, m.End())
}

func TestDecodeIsAMatch(t *testing.T) { // P16.1
	steps := rows(4, 1, 2, 3, end)
	n := small(3, slices.Concat(rows(1, 1, 2), rows(2, 1, 2), rows(3, 1, 2)), [][]int{{1}, {2, 1}}, func(x *table.Table, rs []api.Rule) {
		hold := decoding(t, x, rs)
		for _, us := range steps {
			hold(us)
		}
	})
	if n < 100 {
		t.Error(n)
	}
	hold := decoding(t, of(t, example()...), example())
	for _, us := range rows(6, 1, 2, 3, 4, end) {
		hold(us)
	}
}

func TestADecoderEmbedsItsMatch(t *testing.T) { // P16.1
	d, ok := machine.Decode(of(t, example()...)).(machine.Decoder)
	if !ok || d.Match == nil {
		t.Fatal("no Match")
	}
	tokens(t, run(d, 1, 2, 9), good(0, 2, 11), bad(2, 1))
	if d.Steps() != 1+2+3+1 || d.Match.Steps() != d.Steps() {
		t.Error(d.Steps())
	}
}

func TestEncodeByName(t *testing.T) { // P16.2
	x := of(t, example()...)
	for _, y := range []struct {
		us   []int
		ts   []api.Token // what the last step makes sure
		held int
	}{
		{units(10), list(good(0, 1, 1)), 0},
		{units(11), list(good(0, 1, 1, 2)), 0},
		{units(12), nil, 1},
		{units(12, 12), list(good(0, 2, 3)), 0},
		{units(12, 13), nil, 2},
		{units(12, 13, 14), list(good(0, 3, 1, 2, 3)), 0},
		{units(12, 13, 12), list(good(0, 1, 2), good(1, 1, 4, 4)), 1},
		{units(12, end), list(good(0, 1, 2)), 0},
		{units(12, 13, end), list(good(0, 1, 2), good(1, 1, 4, 4)), 0},
		{units(9), list(bad(0, 1)), 0},
		{units(1), list(bad(0, 1)), 0},
		{units(end), nil, 0},
		{units(12, 9), list(good(0, 1, 2), bad(1, 1)), 0},
		// 1 and then 2 would be read as 1 2, whether they are told in one call or in two.
		{units(10, 12, end), list(bad(1, 1)), 0},
		{units(10, 12, 9), list(bad(1, 1), bad(2, 1)), 0},
		{units(10, 12, 13, 10), list(bad(1, 1), good(2, 1, 4, 4), good(3, 1, 1)), 0},
		{units(11, 12, 12), list(bad(1, 2)), 0},
		{units(10, 12, 12), list(good(1, 2, 3)), 0},
		{units(14, 12, end), list(good(1, 1, 2)), 0},
		{units(15, 15), list(bad(1, 1)), 0},
		{units(15, 13), list(bad(1, 1)), 0},
		{units(13, 15), list(good(1, 1, 4)), 0},
		// The tokens of one call: the second one can't stand behind the first one, the third one can.
		{units(12, 12, 12, 9), list(bad(2, 1), bad(3, 1)), 0},
		{units(12, 12, end, 12, 15), list(bad(2, 1), good(3, 1, 4)), 0},
		// What stands ahead is the last token that is not wrong, however many wrong ones are between.
		{units(15, 9, 13), list(bad(2, 1)), 0},
		{units(15, 13, 13), list(bad(2, 1)), 0},
		{units(15, 15, 15, 9, 9, 9, 15), list(bad(6, 1)), 0},
		{units(15, 13, 10, 15), list(good(3, 1, 4)), 0},
		{units(9, 15), list(good(1, 1, 4)), 0},
		// Only that token, and not what is ahead of it.
		{units(10, 14, 12, end), list(good(2, 1, 2)), 0},
		{units(10, 15, 12, end), list(good(2, 1, 2)), 0},
		// End forgets nothing.
		{units(15, end, 15), list(bad(1, 1)), 0},
		{units(10, end, end, 12, end), list(bad(1, 1)), 0},
		{units(10, 12, end, 12, end), list(bad(2, 1)), 0},
		{units(12, 12, end, 12, end), list(bad(2, 1)), 0},
	} {
		m, last := machine.Encode(x), len(y.us)-1
		run(m, y.us[:last]...)
		if got := step(m, y.us[last]); !same(got, y.ts) {
			t.Errorf("the last of %v makes sure %v, not %v", y.us, got, y.ts)
		}
		if m.Held() != y.held {
			t.Errorf("behind %v wait %d, not %d", y.us, m.Held(), y.held)
		}
	}
}

func TestApartByName(t *testing.T) { // P16.2
	x := of(t, example()...)
	for _, y := range []struct {
		us   []int
		ts   []api.Token // what the last step makes sure
		held int
	}{
		{units(apart), nil, 0},
		{units(apart, 10), list(good(0, 1, 1)), 0},
		{units(apart, end), nil, 0},
		{units(15, apart), nil, 0},
		{units(15, apart, 15), list(good(1, 1, 4)), 0},
		{units(15, apart, 13), list(good(1, 1, 4, 4)), 0},
		{units(15, end, apart, 15), list(good(1, 1, 4)), 0},
		{units(15, apart, end, 15), list(good(1, 1, 4)), 0},
		{units(15, apart, apart, 15), list(good(1, 1, 4)), 0},
		{units(15, 9, apart, 15), list(good(2, 1, 4)), 0},
		{units(15, apart, 9, 15), list(good(2, 1, 4)), 0},
		{units(15, 15, apart, 9, 15), list(good(3, 1, 4)), 0},
		// What comes behind it stands ahead again.
		{units(15, apart, 15, 15), list(bad(2, 1)), 0},
		{units(apart, 15, 15), list(bad(1, 1)), 0},
		{units(15, apart, 15, end, 15), list(bad(2, 1)), 0},
		{units(15, apart, 15, apart, 15), list(good(2, 1, 4)), 0},
		// What waits waits on, and is told without what stood ahead.
		{units(12, apart), nil, 1},
		{units(12, apart, end), list(good(0, 1, 2)), 0},
		{units(12, apart, 12), list(good(0, 2, 3)), 0},
		{units(12, apart, 13), nil, 2},
		{units(12, apart, 13, apart, 14), list(good(0, 3, 1, 2, 3)), 0},
		{units(10, 12, apart, end), list(good(1, 1, 2)), 0},
		{units(10, 12, apart, 9), list(good(1, 1, 2), bad(2, 1)), 0},
		{units(12, 12, 12, apart, 12), list(good(2, 2, 3)), 0},
		{units(11, 12, apart, 12, 12, end), list(bad(3, 1)), 0},
		{units(10, 12, apart, 12, 10, 12, end), list(bad(4, 1)), 0},
	} {
		m, last := machine.Encode(x), len(y.us)-1
		run(m, y.us[:last]...)
		if got := step(m, y.us[last]); !same(got, y.ts) {
			t.Errorf("the last of %v makes sure %v, not %v", y.us, got, y.ts)
		}
		if m.Held() != y.held {
			t.Errorf("behind %v wait %d, not %d", y.us, m.Held(), y.held)
		}
	}
}

func TestApartWhereZeroIsAUnit(t *testing.T) { // P16.2
	x := of(t, single(0, 1), one(units(0, 0), units(2)), one(units(0, 0, 5), units(3)), single(5, 4))
	e := machine.Encode(x)
	for k := range 4 {
		at := 8 * k
		tokens(t, run(e, 1, 1), good(at, 1, 0), bad(at+1, 1))
		e.Apart()
		tokens(t, run(e, 1, 4), good(at+2, 1, 0), good(at+3, 1, 5))
		tokens(t, run(e, 2, 4), good(at+4, 1, 0, 0), bad(at+5, 1))
		e.Apart()
		tokens(t, run(e, 4, 1), good(at+6, 1, 5), good(at+7, 1, 0))
		e.Apart()
	}
	hold := encoding(t, x, []api.Rule{single(0, 1), one(units(0, 0), units(2)), one(units(0, 0, 5), units(3)), single(5, 4)})
	for _, us := range rows(6, 1, 2, 4, apart) {
		hold(us)
	}
}

func TestEncodeIsAsItsWordsSay(t *testing.T) { // P16.2
	steps := rows(4, 1, 2, 3, end, apart)
	twos := slices.Concat(rows(1, 1, 2), rows(2, 1, 2))
	n := small(3, twos, twos, func(x *table.Table, rs []api.Rule) {
		hold := encoding(t, x, rs)
		for _, us := range steps {
			hold(us)
		}
	})
	if n < 500 {
		t.Error(n)
	}
}

func TestEncodeOfLongerRules(t *testing.T) { // P16.2
	steps := rows(6, 1, 2, 3, end, apart)
	for _, rs := range [][]api.Rule{
		{single(1, 1), one(units(1, 2), units(2, 1)), one(units(1, 2, 1), units(1, 2, 2)), single(2, 2)},
		{single(1, 1), one(units(1, 1), units(2, 2)), one(units(1, 1, 1), units(2, 2, 1)), one(units(1, 1, 1, 1), units(3))},
		{one(units(1, 2), units(1)), one(units(1, 3), units(2)), one(units(1, 2, 2), units(1, 1, 1)), single(2, 3)},
		{one(units(2), units(1, 2, 3)), one(units(2, 2), units(1, 2)), one(units(2, 2, 2), units(1)), one(units(2, 2, 1), units(2)), one(units(1), units(3, 3))},
	} {
		hold := encoding(t, of(t, rs...), rs)
		for _, us := range steps {
			hold(us)
		}
	}
	hold := encoding(t, of(t, example()...), example())
	for _, us := range rows(5, 10, 12, 13, 14, 15, end, apart) {
		hold(us)
	}
}

// parts holds all tokens of units that come one by one against those of the table, which has them all at once.
func parts(t *testing.T, x *table.Table, us []int) {
	t.Helper()
	kept := slices.Clone(us)
	if got, want := machine.All(machine.Decode(x), us), x.Decode(us); !same(got, want) {
		t.Fatalf("decoding %v is %v, not %v", us, got, want)
	}
	if got, want := machine.All(machine.Encode(x), us), x.Encode(us); !same(got, want) {
		t.Fatalf("encoding %v is %v, not %v", us, got, want)
	}
	if !slices.Equal(us, kept) {
		t.Fatalf("All changed %v to %v", kept, us)
	}
}

func TestPartsAreAsTheWhole(t *testing.T) { // P16.1, P16.2, P16.3
	twos := slices.Concat(rows(1, 1, 2), rows(2, 1, 2))
	all := slices.Concat(rows(0), rows(1, 1, 2, 3), rows(3, 1, 2, 3), rows(5, 1, 2))
	small(2, twos, twos, func(x *table.Table, rs []api.Rule) {
		for _, us := range all {
			parts(t, x, us)
		}
	})
	x := of(t, example()...)
	for _, us := range slices.Concat(rows(4, 1, 2, 3, 4, 9), rows(4, 10, 11, 12, 13, 14, 15)) {
		parts(t, x, us)
	}
}

func TestTheRulesOfTheCodecs(t *testing.T) { // P16.1, P16.2, P16.3
	for _, rs := range [][]api.Rule{viscii.Rules(), tcvn.Rules(), vni.Rules(), indic.Rules()} {
		x := of(t, rs...)
		var ins, outs []int
		for _, r := range rs {
			ins, outs = append(ins, r.In...), append(outs, r.Out...)
		}
		for range 2 {
			parts(t, x, ins)
			parts(t, x, outs)
			slices.Reverse(ins)
			slices.Reverse(outs)
		}
		for _, a := range rs {
			for _, b := range rs {
				us := slices.Concat(a.Out, b.Out)
				parts(t, x, us)
				written, wrong := rewrite.Units(machine.All(machine.Encode(x), us))
				if wrong.Err != 0 {
					continue
				}
				if again, fault := rewrite.Units(machine.All(machine.Decode(x), written)); fault.Err != 0 || !slices.Equal(again, us) {
					t.Fatalf("%v is written as %v, which is read as %v, %v", us, written, again, fault)
				}
			}
		}
	}
}

func TestAtTheBounds(t *testing.T) { // P16.1, P16.2
	for _, rs := range [][]api.Rule{chain(), broad(), deep()} {
		x := of(t, rs...)
		var us []int
		for k, r := range rs {
			us = slices.Concat(us, r.In, r.Out)
			if k%5 == 0 {
				us = append(us, apart)
			}
			if k%7 == 0 {
				us = append(us, end)
			}
		}
		for range 2 {
			decoding(t, x, rs)(us)
			encoding(t, x, rs)(us)
			slices.Reverse(us)
		}
	}
	// Seven units wait, and no more, both ways.
	x := of(t, chain()...)
	for _, m := range []machine.Machine{machine.Decode(x), machine.Encode(x)} {
		u := 1
		if _, ok := m.(*machine.Encoder); ok {
			u = 2
		}
		for k := range 7 {
			tokens(t, m.Put(u))
			held(t, m, k+1)
		}
		if ts := m.Put(u); len(ts) != 1 || ts[0].Len != 8 || ts[0].Err != 0 {
			t.Error(ts)
		}
		held(t, m, 0)
	}
	// Eight units stand ahead of nothing that they would be read with, seven do.
	e := machine.Encode(x)
	tokens(t, run(e, 2, end), good(0, 1, 1, 1, 1, 1, 1, 1, 1, 1))
	tokens(t, run(e, 2, end), good(1, 1, 1, 1, 1, 1, 1, 1, 1, 1))
	tokens(t, run(e, 2, 2, end), good(2, 2, 1, 1, 1, 1, 1, 1, 1))
	tokens(t, run(e, 2, end), bad(4, 1))
	e.Apart()
	tokens(t, run(e, 2, end), good(5, 1, 1, 1, 1, 1, 1, 1, 1, 1))
}

func TestNumbersThatAreNoUnits(t *testing.T) { // P16.1, P16.2, W1
	x := of(t, single(0, 1), one(units(0, 1), units(0)), one(units(0, 1, 0), units(1, 0, 1)))
	us := units(-1, math.MinInt, math.MaxInt, 1<<32, 1<<32+1, 0x110000)
	for _, m := range []machine.Machine{machine.Decode(x), machine.Encode(x)} {
		for k, u := range us {
			tokens(t, m.Put(u), bad(k, 1))
			held(t, m, 0)
		}
	}
	for _, u := range us {
		d, e := machine.Decode(x), machine.Encode(x)
		tokens(t, run(d, 0, 1, u), good(0, 2, 0), bad(2, 1))
		tokens(t, run(e, 1, 0, u), good(0, 1, 0), good(1, 1, 0, 1), bad(2, 1))
		parts(t, x, units(0, u, 1, 0, u, 1, 0))
	}
}

func TestWithoutRules(t *testing.T) { // P16.1, P16.2, W1
	for _, m := range []machine.Machine{machine.Decode(of(t)), machine.Encode(of(t)), machine.Decode(&table.Table{}), machine.Encode(&table.Table{}), &machine.Encoder{}} {
		held(t, m, 0)
		tokens(t, m.End())
		for k, u := range units(0, 1, -1, 0x10ffff, math.MaxInt, 0, 0, 0, 0, 0) {
			tokens(t, m.Put(u), bad(k, 1))
			held(t, m, 0)
			step(m, apart)
		}
		tokens(t, m.End())
	}
}

func TestALongRow(t *testing.T) { // P16.2, P16.3, W1
	const size = 1 << 20
	x := of(t, single(1, 1), one(units(1, 1), units(2)), one(units(3), units(1, 1)))
	ts := machine.All(machine.Encode(x), slices.Repeat(units(1), size+1))
	if len(ts) != size/2+1 {
		t.Fatal(len(ts))
	}
	for k, y := range ts[:size/2] {
		if !sameToken(y, good(2*k, 2, 3)) {
			t.Fatal(k, y)
		}
	}
	tokens(t, ts[size/2:], good(size, 1, 1))
	// The first token stands ahead of all the others.
	e := machine.Encode(of(t, single(1, 1), one(units(1, 1), units(2))))
	tokens(t, e.Put(1), good(0, 1, 1))
	for k := 1; k < size; k++ {
		tokens(t, e.Put(1), bad(k, 1))
	}
	e.Apart()
	tokens(t, e.Put(1), good(size, 1, 1))
}

// log is a machine that keeps what it was asked, and what it tells: two tokens for each unit, one at the end.
type log struct {
	asked []int
	kept  []api.Token
	out   [1]int
}

// tell has its tokens share their Outs, and later ones overwrite earlier ones.
func (l *log) tell(n, u int) []api.Token {
	l.asked = append(l.asked, u)
	l.out[0] = u
	l.kept = l.kept[:0]
	for range n {
		l.kept = append(l.kept, api.Token{At: len(l.asked), Len: n, Out: l.out[:], Err: api.Errno(u)})
	}
	return l.kept
}

func (l *log) Put(u int) []api.Token { return l.tell(2, u) }

func (l *log) End() []api.Token { return l.tell(1, end) }

func (l *log) Held() int { return 0 }

func TestAllOfAnyMachine(t *testing.T) { // P16.3, W6
	token := func(at, n, u int) api.Token { return api.Token{At: at, Len: n, Out: units(u), Err: api.Errno(u)} }
	l := &log{}
	us := units(5, 7, 5)
	ts := machine.All(l, us)
	want := list(token(1, 2, 5), token(1, 2, 5), token(2, 2, 7), token(2, 2, 7), token(3, 2, 5), token(3, 2, 5), token(4, 1, end))
	tokens(t, ts, want...)
	if !slices.Equal(l.asked, append(slices.Clone(us), end)) || !slices.Equal(us, units(5, 7, 5)) {
		t.Error(l.asked, us)
	}
	// Without units there is the End alone.
	for _, none := range [][]int{nil, units()} {
		n := len(l.asked)
		tokens(t, machine.All(l, none), token(n+1, 1, end))
		if !slices.Equal(l.asked[n:], units(end)) {
			t.Error(l.asked[n:])
		}
	}
	// The tokens share no memory with the machine, nor with one another.
	tokens(t, ts, want...)
	ts[0].Out[0], ts[6].Out[0] = 99, 98
	tokens(t, ts[1:6], want[1:6]...)
	if l.out[0] != end {
		t.Error(l.out)
	}
}

func TestAllByName(t *testing.T) { // P16.3
	x := of(t, example()...)
	d, e := machine.Decode(x), machine.Encode(x)
	tokens(t, machine.All(d, nil))
	tokens(t, machine.All(e, units()))
	tokens(t, machine.All(d, units(1, 2, 9, 4)), good(0, 2, 11), bad(2, 1), good(3, 1, 15))
	tokens(t, machine.All(e, units(11, 9, 15)), good(0, 1, 1, 2), bad(1, 1), good(2, 1, 4))
	// What waited ahead of it is told as well, At goes on, and what was told stands ahead.
	tokens(t, d.Put(1))
	tokens(t, machine.All(d, units(2, 3, 1)), good(4, 3, 12, 13, 14), good(7, 1, 10))
	tokens(t, machine.All(d, units(4)), good(8, 1, 15))
	tokens(t, machine.All(e, units(13, 12)), bad(3, 1), good(4, 1, 2))
	tokens(t, e.Put(12))
	tokens(t, machine.All(e, units(13, 10)), good(5, 1, 2), good(6, 1, 4, 4), good(7, 1, 1))
	tokens(t, machine.All(e, units(12)), bad(8, 1))
	e.Apart()
	tokens(t, machine.All(e, units(12)), good(9, 1, 2))
	held(t, d, 0)
	held(t, e, 0)
}

func TestAllOfNoMachine(t *testing.T) { // P16.3, W1
	tokens(t, machine.All(nil, nil))
	tokens(t, machine.All(nil, units(1, 2)))
}

func TestMachinesShareNothing(t *testing.T) { // P16.1, P16.2, W2, W6
	x := of(t, example()...)
	d, e, d2, e2 := machine.Decode(x), machine.Encode(x), machine.Decode(x), machine.Encode(x)
	run(d, 9, 1, 2)
	run(e, 15, 12, 13)
	tokens(t, d2.Put(3))
	tokens(t, d2.Put(2), good(0, 2, 14))
	tokens(t, e2.Put(15), good(0, 1, 4))
	held(t, d, 2)
	held(t, e, 2)
	e2.Apart()
	// The copy of an Encoder goes on by itself.
	twin := *e
	twin.Apart()
	tokens(t, run(&twin, end, 10), good(1, 1, 2), good(2, 1, 4, 4), good(3, 1, 1))
	held(t, e, 2)
	tokens(t, e.Put(9), good(1, 1, 2), good(2, 1, 4, 4), bad(3, 1))
	tokens(t, run(&twin, 12, end), bad(4, 1))
	tokens(t, run(e, 12, end), good(4, 1, 2))
	// What stands ahead of the one is not what stands ahead of the other, from wherever they parted.
	tokens(t, run(e, 15), good(5, 1, 4))
	twin = *e
	tokens(t, run(&twin, 10, 15), good(6, 1, 1), good(7, 1, 4))
	tokens(t, run(e, 15, 10), bad(6, 1), good(7, 1, 1))
	tokens(t, run(&twin, 15, 12, end), bad(8, 1), good(9, 1, 2))
	tokens(t, d.End(), good(1, 2, 11))
	tokens(t, d2.End())
}

func TestTokensShareNothing(t *testing.T) { // P16.1, P16.2, W2, W6
	x := of(t, example()...)
	d, e := machine.Decode(x), machine.Encode(x)
	for k := range 3 {
		// Whatever becomes of a token that was told, the next one stands behind what it was.
		ts := e.Put(15)
		tokens(t, ts, good(2*k, 1, 4))
		ts[0].Out[0], ts[0].Err, ts[0].Len = 1, api.ErrShort, 7
		ts[0].Out = append(ts[0].Out, 2)
		tokens(t, e.Put(15), bad(2*k+1, 1))
		tokens(t, ts, api.Token{At: 2 * k, Len: 7, Out: units(1, 2), Err: api.ErrShort})
		e.Apart()
		ts = d.Put(2)
		tokens(t, ts, good(k, 1, 12))
		ts[0].Out[0] = 99
	}
	ts := run(e, 11, 14, 9, 13)
	want := list(good(6, 1, 1, 2), bad(7, 1), bad(8, 1), good(9, 1, 4, 4))
	tokens(t, ts, want...)
	run(e, 11, 15, 12, 12, end)
	tokens(t, ts, want...)
	tokens(t, machine.All(machine.Encode(x), units(15, 15)), good(0, 1, 4), bad(1, 1))
	tokens(t, x.Decode(units(4, 1)), good(0, 1, 15), good(1, 1, 10))
	tokens(t, x.Encode(units(15, 12, 12)), good(0, 1, 4), good(1, 2, 3))
}

func TestMachinesChangeNoTable(t *testing.T) { // P16.1, P16.2, W2, W6
	x := of(t, example()...)
	d, e := machine.Decode(x), machine.Encode(x)
	run(d, 1, 2, 3, 9, 4, end)
	run(e, 15, 15, 12, 12, apart, end)
	fresh := of(t, example()...)
	for _, us := range slices.Concat(rows(3, 1, 2, 3, 4), rows(3, 10, 12, 13, 15)) {
		tokens(t, x.Decode(us), fresh.Decode(us)...)
		tokens(t, x.Encode(us), fresh.Encode(us)...)
	}
	// Another table put in its place later changes no machine.
	*x = *of(t, single(7, 8))
	tokens(t, run(d, 1, 2, 3), good(5, 3, 12, 13, 14))
	tokens(t, run(e, 15, 15, 12, 12), good(4, 1, 4), bad(5, 1), good(6, 2, 3))
}
