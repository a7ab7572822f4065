package rule_test

import (
	"math"
	"slices"
	"testing"

	"lontar/api"
	"lontar/rule"
)

func units(us ...int) []int { return us }

func one(in, out []int) api.Rule { return api.Rule{In: in, Out: out} }

func single(in, out int) api.Rule { return one(units(in), units(out)) }

func sameRule(a, b api.Rule) bool { return slices.Equal(a.In, b.In) && slices.Equal(a.Out, b.Out) }

func same(a, b []api.Rule) bool { return slices.EqualFunc(a, b, sameRule) }

// copied are the same rules in memory of their own.
func copied(rs []api.Rule) []api.Rule {
	var own []api.Rule
	for _, r := range rs {
		own = append(own, one(slices.Clone(r.In), slices.Clone(r.Out)))
	}
	return own
}

// many are n rules of which none has the In or the Out of another.
func many(n int) []api.Rule {
	var rs []api.Rule
	for k := range n {
		rs = append(rs, single(k, n+k))
	}
	return rs
}

// with has another rule at k.
func with(rs []api.Rule, k int, r api.Rule) []api.Rule {
	own := slices.Clone(rs)
	own[k] = r
	return own
}

// good and bad are sides that a valid rule may have, and those that none has.
func good() [][]int {
	return [][]int{units(0), units(1), units(0x10ffff), units(0xd800), units(0xdfff), units(0, 0), units(1, 2, 3, 4, 5, 6, 7), make([]int, 8), units(0x10ffff, 0, 0x10ffff, 0, 0x10ffff, 0, 0x10ffff, 0)}
}

func bad() [][]int {
	return [][]int{nil, {}, units(-1), units(0x110000), units(math.MinInt), units(math.MaxInt), units(1 << 32), units(1<<32 + 1), units(1, -1), units(0x110000, 1), units(1, 2, 3, 4, 5, 6, 7, -1), units(0, 0, 0, 0, 0, 0, 0, 0x110000), make([]int, 9), make([]int, 16), make([]int, 257), make([]int, 4096)}
}

func checked(t *testing.T, rs []api.Rule, at int, e api.Errno) {
	t.Helper()
	kept := copied(rs)
	if k, err := rule.Check(rs); k != at || err != e {
		t.Fatalf("Check of %d rules is %d, %d, not %d, %d", len(rs), k, err, at, e)
	}
	if !same(rs, kept) {
		t.Fatalf("Check changed %v to %v", kept, rs)
	}
}

// tables has f called for all rows of at most n rules whose sides are of those given.
func tables(n int, ins, outs [][]int, f func(rs []api.Rule)) {
	var add func(rs []api.Rule)
	add = func(rs []api.Rule) {
		f(rs)
		if len(rs) == n {
			return
		}
		for _, in := range ins {
			for _, out := range outs {
				add(append(slices.Clone(rs), one(in, out)))
			}
		}
	}
	add(nil)
}

// few are sides that differ in length only, in the order of their units, or in one unit.
func few() [][]int { return [][]int{nil, units(1), units(1, 2), units(2, 1), units(1, 2, 3)} }

func TestCheckOfValidRules(t *testing.T) { // P3.1
	checked(t, nil, -1, 0)
	checked(t, []api.Rule{}, -1, 0)
	for _, in := range good() {
		for _, out := range good() {
			checked(t, []api.Rule{one(in, out)}, -1, 0)
			checked(t, []api.Rule{single(5, 6), one(in, out), single(7, 6)}, -1, 0)
		}
	}
	checked(t, []api.Rule{one(units(1, 2), units(3)), single(1, 3), single(2, 3), one(units(2, 1), units(3)), one(units(1, 2, 1), units(3)), one(units(1, 1), units(3))}, -1, 0)
	checked(t, many(1), -1, 0)
	checked(t, many(511), -1, 0)
	checked(t, many(512), -1, 0)
}

func TestCheckOfSidesThatMayNotBe(t *testing.T) { // P3.1
	for _, wrong := range bad() {
		for _, right := range good() {
			for _, r := range []api.Rule{one(wrong, right), one(right, wrong), one(wrong, wrong)} {
				checked(t, []api.Rule{r}, 0, api.ErrArgument)
				checked(t, []api.Rule{single(5, 6), r}, 1, api.ErrArgument)
				checked(t, []api.Rule{single(5, 6), r, single(5, 6)}, 1, api.ErrArgument)
			}
		}
	}
	for k := range 8 {
		for _, u := range units(-1, 0x110000) {
			us := make([]int, 8)
			us[k] = u
			checked(t, []api.Rule{one(us, units(1))}, 0, api.ErrArgument)
			checked(t, []api.Rule{one(units(1), us)}, 0, api.ErrArgument)
		}
	}
}

func TestCheckOfRulesTwice(t *testing.T) { // P3.1
	a, b := one(units(1, 2), units(3)), one(units(2, 1), units(3))
	checked(t, []api.Rule{a, a}, 1, api.ErrTwice)
	checked(t, []api.Rule{a, one(units(1, 2), units(4))}, 1, api.ErrTwice)
	checked(t, []api.Rule{a, b, a}, 2, api.ErrTwice)
	checked(t, []api.Rule{a, b, b, a}, 2, api.ErrTwice)
	checked(t, []api.Rule{a, b, single(1, 3), a, one(nil, nil)}, 3, api.ErrTwice)
	for _, in := range good() {
		checked(t, []api.Rule{single(5, 6), one(in, units(1)), single(7, 6), one(slices.Clone(in), units(2))}, 3, api.ErrTwice)
	}
	for _, k := range units(0, 1, 255, 510) {
		checked(t, with(many(512), 511, single(k, 1)), 511, api.ErrTwice)
	}
}

func TestCheckOfTooManyRules(t *testing.T) { // P3.1
	checked(t, many(513), 512, api.ErrLimit)
	checked(t, many(514), 512, api.ErrLimit)
	checked(t, many(2000), 512, api.ErrLimit)
	checked(t, make([]api.Rule, 600), 0, api.ErrArgument)
}

func TestCheckNamesTheFirstErrorOfTheFirstRule(t *testing.T) { // P3.1, W4
	rs := many(520)
	for _, wrong := range bad() {
		checked(t, with(rs, 512, one(wrong, units(1))), 512, api.ErrLimit)
		checked(t, with(rs, 512, one(units(1), wrong)), 512, api.ErrLimit)
		checked(t, with(rs, 513, one(wrong, wrong)), 512, api.ErrLimit)
		checked(t, with(rs, 511, one(wrong, units(1))), 511, api.ErrArgument)
		// Both are wrong of the second rule, and what is said of its sides comes first.
		checked(t, []api.Rule{single(1, 2), one(units(1), wrong)}, 1, api.ErrArgument)
		// The third one has the In of the second, but the second is wrong ahead of it.
		checked(t, []api.Rule{single(1, 2), one(wrong, units(1)), one(wrong, units(1))}, 1, api.ErrArgument)
		checked(t, []api.Rule{single(1, 2), single(1, 2), one(wrong, wrong)}, 1, api.ErrTwice)
	}
	checked(t, with(rs, 512, single(0, 1)), 512, api.ErrLimit)
	checked(t, with(rs, 300, single(299, 1)), 300, api.ErrTwice)
}

// expect is what P3.1 says of at most 512 rules, word for word.
func expect(rs []api.Rule) (int, api.Errno) {
	may := func(us []int) bool {
		return len(us) >= 1 && len(us) <= 8 && slices.Min(us) >= 0 && slices.Max(us) <= 0x10ffff
	}
	for k, r := range rs {
		if !may(r.In) || !may(r.Out) {
			return k, api.ErrArgument
		}
		if slices.ContainsFunc(rs[:k], func(x api.Rule) bool { return slices.Equal(x.In, r.In) }) {
			return k, api.ErrTwice
		}
	}
	return -1, 0
}

func TestCheckIsAsItsWordsSay(t *testing.T) { // P3.1
	sides := [][]int{nil, units(1), units(1, 2), units(2, 1), units(0x110000), make([]int, 9)}
	tables(3, sides, sides, func(rs []api.Rule) {
		at, e := expect(rs)
		checked(t, rs, at, e)
	})
}

func TestFindByName(t *testing.T) { // P3.1
	rs := []api.Rule{one(units(1, 2), units(3)), one(units(4), units(3)), one(units(1, 2), units(5)), one(units(4, 4), units(6)), one(nil, units(7)), one(units(-1), nil), one(make([]int, 9), units(1))}
	for _, x := range []struct {
		in []int
		at int
	}{{units(1, 2), 0}, {units(4), 1}, {units(4, 4), 3}, {nil, 4}, {units(), 4}, {units(-1), 5}, {make([]int, 9), 6}, {make([]int, 8), -1}, {units(1), -1}, {units(2), -1}, {units(2, 1), -1}, {units(1, 2, 3), -1}, {units(3), -1}, {units(4, 4, 4), -1}, {units(0x110000), -1}} {
		if at := rule.Find(rs, x.in); at != x.at {
			t.Errorf("Find of %v is %d, not %d", x.in, at, x.at)
		}
	}
	for _, rs := range [][]api.Rule{nil, {}, {single(1, 2)}} {
		for _, in := range [][]int{nil, {}, units(2), units(1, 1)} {
			if at := rule.Find(rs, in); at != -1 {
				t.Errorf("Find of %v in %v is %d", in, rs, at)
			}
		}
	}
	for k := range 600 {
		if at := rule.Find(many(600), units(k)); at != k {
			t.Fatalf("Find of %d is %d", k, at)
		}
	}
}

func TestFindIsTheFirst(t *testing.T) { // P3.1
	tables(4, few(), [][]int{units(1)}, func(rs []api.Rule) {
		kept := copied(rs)
		for _, in := range few() {
			want := slices.IndexFunc(rs, func(r api.Rule) bool { return slices.Equal(r.In, in) })
			if at := rule.Find(rs, in); at != want {
				t.Fatalf("Find of %v in %v is %d", in, rs, at)
			}
		}
		if !same(rs, kept) {
			t.Fatalf("Find changed %v to %v", kept, rs)
		}
	})
}

func TestTurnByName(t *testing.T) { // P3.2
	for _, x := range []struct{ rs, turned []api.Rule }{
		{nil, nil},
		{[]api.Rule{}, nil},
		{[]api.Rule{single(1, 2), single(3, 2)}, []api.Rule{single(2, 1)}},
		{[]api.Rule{single(3, 2), single(1, 2)}, []api.Rule{single(2, 3)}},
		{[]api.Rule{single(1, 2), single(2, 1)}, []api.Rule{single(2, 1), single(1, 2)}},
		{[]api.Rule{single(1, 2), single(1, 3)}, []api.Rule{single(2, 1), single(3, 1)}},
		{[]api.Rule{single(1, 2), single(1, 2)}, []api.Rule{single(2, 1)}},
		{[]api.Rule{single(9, 5), single(8, 4), single(7, 5), single(6, 3), single(5, 4)}, []api.Rule{single(5, 9), single(4, 8), single(3, 6)}},
		{[]api.Rule{one(units(1, 2), units(3)), single(4, 3), one(units(5), units(6, 7))}, []api.Rule{one(units(3), units(1, 2)), one(units(6, 7), units(5))}},
		{[]api.Rule{one(units(1), units(6, 7)), one(units(2), units(7, 6)), one(units(3), units(6)), one(units(4), units(6, 7, 8))}, []api.Rule{one(units(6, 7), units(1)), one(units(7, 6), units(2)), one(units(6), units(3)), one(units(6, 7, 8), units(4))}},
		{[]api.Rule{one(nil, nil), one(units(1), units()), one(units(-1), units(0x110000))}, []api.Rule{one(nil, nil), one(units(0x110000), units(-1))}},
	} {
		if turned := rule.Turn(x.rs); !same(turned, x.turned) {
			t.Errorf("Turn of %v is %v, not %v", x.rs, turned, x.turned)
		}
	}
}

func TestTurnIsAsItsWordsSay(t *testing.T) { // P3.2
	tables(3, few(), few(), func(rs []api.Rule) {
		kept := copied(rs)
		var want []api.Rule
		for k, r := range rs {
			if !slices.ContainsFunc(rs[:k], func(x api.Rule) bool { return slices.Equal(x.Out, r.Out) }) {
				want = append(want, one(r.Out, r.In))
			}
		}
		if turned := rule.Turn(rs); !same(turned, want) {
			t.Fatalf("Turn of %v is %v", rs, turned)
		}
		if !same(rs, kept) {
			t.Fatalf("Turn changed %v to %v", kept, rs)
		}
	})
}

func TestTurnTwice(t *testing.T) { // P3.2
	rs := many(600)
	turned := rule.Turn(rs)
	if len(turned) != 600 || !same(rule.Turn(turned), rs) {
		t.Error("rules that differ on both sides are not what they were")
	}
	for k, r := range turned {
		if !sameRule(r, single(600+k, k)) {
			t.Fatalf("rule %d is %v", k, r)
		}
	}
}

func TestTurnSharesNothing(t *testing.T) { // P3.2, W6
	room := units(1, 2, 3, 4)
	rs := []api.Rule{one(room[:1], room[1:2]), one(room[:1], room[2:3])}
	turned := rule.Turn(rs)
	if len(turned) != 2 {
		t.Fatal(turned)
	}
	turned[0].In[0], turned[0].Out[0] = 7, 8
	turned[0].In = append(turned[0].In, 9)
	turned[0].Out = append(turned[0].Out, 9)
	if !slices.Equal(room, units(1, 2, 3, 4)) || !sameRule(turned[1], single(3, 1)) {
		t.Error(room, turned)
	}
	room[0], room[2] = 5, 6
	if !sameRule(turned[1], single(3, 1)) || !slices.Equal(turned[0].In, units(7, 9)) || !slices.Equal(turned[0].Out, units(8, 9)) {
		t.Error(turned)
	}
}

func TestLongestIsOfTheIns(t *testing.T) { // P3.2
	for _, x := range []struct {
		rs []api.Rule
		n  int
	}{
		{nil, 0},
		{[]api.Rule{}, 0},
		{[]api.Rule{single(1, 2)}, 1},
		{[]api.Rule{one(units(9), units(1, 2, 3))}, 1},
		{[]api.Rule{one(units(1, 2, 3), units(9)), single(4, 5)}, 3},
		{[]api.Rule{single(4, 5), one(units(1, 2, 3), units(9))}, 3},
		{[]api.Rule{single(4, 5), one(make([]int, 8), units(9)), one(units(1, 2), make([]int, 8))}, 8},
		{[]api.Rule{one(make([]int, 20), nil), single(1, 2)}, 20},
		{[]api.Rule{one(nil, units(1))}, 0},
	} {
		kept := copied(x.rs)
		if n := rule.Longest(x.rs); n != x.n {
			t.Errorf("Longest of %v is %d, not %d", x.rs, n, x.n)
		}
		if !same(x.rs, kept) {
			t.Errorf("Longest changed %v to %v", kept, x.rs)
		}
	}
}

func TestSinglesHaveARuleARow(t *testing.T) { // P3.2
	if rs := rule.Singles(); len(rs) != 0 {
		t.Error(rs)
	}
	if rs := rule.Singles(nil...); len(rs) != 0 {
		t.Error(rs)
	}
	if rs := rule.Singles([2]int{1, 2}); !same(rs, []api.Rule{single(1, 2)}) {
		t.Error(rs)
	}
	if rs := rule.Singles([2]int{3, 4}, [2]int{1, 2}, [2]int{3, 4}, [2]int{3, 5}, [2]int{6, 4}); !same(rs, []api.Rule{single(3, 4), single(1, 2), single(3, 4), single(3, 5), single(6, 4)}) {
		t.Error(rs)
	}
	// Whether a rule is valid is for Check to tell.
	if rs := rule.Singles([2]int{-1, math.MaxInt}, [2]int{0x110000, math.MinInt}, [2]int{0, 0}); !same(rs, []api.Rule{single(-1, math.MaxInt), single(0x110000, math.MinInt), single(0, 0)}) {
		t.Error(rs)
	}
}

func TestSinglesShareNothing(t *testing.T) { // P3.2, W6
	rows := [][2]int{{1, 2}, {3, 4}, {5, 6}}
	rs := rule.Singles(rows...)
	if len(rs) != 3 {
		t.Fatal(rs)
	}
	rs[0].In[0], rs[0].Out[0] = 7, 8
	rs[1].In = append(rs[1].In, 9)
	rs[1].Out = append(rs[1].Out, 9)
	if rows[0] != [2]int{1, 2} || !sameRule(rs[2], single(5, 6)) {
		t.Error(rows, rs)
	}
	rows[2] = [2]int{0, 0}
	if !sameRule(rs[2], single(5, 6)) || !sameRule(rs[1], one(units(3, 9), units(4, 9))) {
		t.Error(rs)
	}
}
