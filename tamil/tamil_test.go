package tamil_test

import (
	"math"
	"slices"
	"strconv"
	"strings"
	"testing"

	"lontar/api"
	"lontar/rewrite"
	"lontar/rule"
	"lontar/table"
	"lontar/tamil"
)

// The rows of the chapter, as it has them.
const (
	consonants = "b95 b99 b9a b9e b9f ba3 ba4 ba8 baa bae baf bb0 bb2 bb5 bb4 bb3 bb1 ba9 b9c bb7 bb8 bb9"
	vowels     = "b85 b86 b87 b88 b89 b8a b8e b8f b90 b92 b93 b94 b83"
	signs      = "a6: bc6, a7: bc7, a8: bc8, a9: bcd, aa: bbe, ab: bbf, ac: bc0, ad: bc1, ae: bc2, af: bd7"
	syllables  = "c: s, d: s bcd, a6 c: s bc6, a7 c: s bc7, a8 c: s bc8, a6 c aa: s bca, a7 c aa: s bcb, a6 c af: s bcc"
)

// The same letters, as text.
const (
	writtenConsonants = "கஙசஞடணதநபமயரலவழளறனஜஷஸஹ"
	writtenVowels     = "அஆஇஈஉஊஎஏஐஒஓஔஃ"
)

// hex are the numbers of words of the chapter; a name stands for its number.
func hex(t *testing.T, words string, names map[string]int) []int {
	t.Helper()
	var ns []int
	for _, word := range strings.Fields(words) {
		n, is := names[word]
		if !is {
			x, err := strconv.ParseInt(word, 16, 64)
			if err != nil {
				t.Fatal(err)
			}
			n = int(x)
		}
		ns = append(ns, n)
	}
	return ns
}

// listed are the rules of a list of the chapter.
func listed(t *testing.T, list string, names map[string]int) []api.Rule {
	t.Helper()
	var rs []api.Rule
	for _, words := range strings.Split(list, ",") {
		in, out, _ := strings.Cut(words, ":")
		rs = append(rs, api.Rule{In: hex(t, in, names), Out: hex(t, out, names)})
	}
	return rs
}

// ruling are all rules, in their order.
func ruling(t *testing.T) []api.Rule {
	t.Helper()
	var rs []api.Rule
	for c := range 0x80 {
		rs = append(rs, api.Rule{In: []int{c}, Out: []int{c}})
	}
	for k, s := range hex(t, vowels, nil) {
		rs = append(rs, api.Rule{In: []int{0x91 + k}, Out: []int{s}})
	}
	rs = append(rs, listed(t, signs, nil)...)
	for k, s := range hex(t, consonants, nil) {
		// The names c and d are numbers, too; in this list they are names alone.
		rs = append(rs, listed(t, syllables, map[string]int{"c": 0xb0 + k, "d": 0xd0 + k, "s": s})...)
	}
	if len(rs) != 128+13+10+22*8 {
		t.Fatal(len(rs))
	}
	return rs
}

// same tells whether two rules have the same units.
func same(a, b api.Rule) bool {
	return slices.Equal(a.In, b.In) && slices.Equal(a.Out, b.Out)
}

// ruled holds all rules.
func ruled(t *testing.T, rs []api.Rule) {
	t.Helper()
	want := ruling(t)
	if len(rs) != len(want) {
		t.Fatalf("%d rules", len(rs))
	}
	for k, r := range rs {
		if !same(r, want[k]) {
			t.Errorf("rule %d is %x to %x, not %x to %x", k, r.In, r.Out, want[k].In, want[k].Out)
		}
	}
}

// stands holds one answer of Consonant; false is expected beside 0.
func stands(t *testing.T, k, want int, is bool) {
	t.Helper()
	for range 2 {
		if s, ok := tamil.Consonant(k); s != want || ok != is {
			t.Errorf("Consonant of %d is %#x, %t, not %#x, %t", k, s, ok, want, is)
		}
	}
}

// whole is the table of all rules.
func whole(t *testing.T) *table.Table {
	t.Helper()
	x, e := table.Of(tamil.Rules())
	if x == nil || e != 0 {
		t.Fatal(e)
	}
	return x
}

func TestConsonants(t *testing.T) { // P17.1
	all := hex(t, consonants, nil)
	for range 2 {
		if n := tamil.Consonants(); n != 22 || n != len(all) {
			t.Fatal(n)
		}
	}
	for k, s := range all {
		stands(t, k, s, true)
	}
}

func TestConsonantByName(t *testing.T) { // P17.1: the ends, and those that stand out of order
	for k, s := range map[int]int{0: 0xb95, 1: 0xb99, 3: 0xb9e, 7: 0xba8, 8: 0xbaa, 11: 0xbb0, 12: 0xbb2, 13: 0xbb5, 14: 0xbb4, 15: 0xbb3, 16: 0xbb1, 17: 0xba9, 18: 0xb9c, 19: 0xbb7, 20: 0xbb8, 21: 0xbb9} {
		stands(t, k, s, true)
	}
}

func TestConsonantAsText(t *testing.T) { // P17.1: the list read once more
	k := 0
	for _, r := range writtenConsonants {
		stands(t, k, int(r), true)
		k++
	}
	if k != tamil.Consonants() {
		t.Error(k)
	}
}

func TestConsonantThatIsNone(t *testing.T) { // P17.1, W1, W3, W5
	for k := -300; k < 0; k++ {
		stands(t, k, 0, false)
	}
	for k := 22; k < 300; k++ {
		stands(t, k, 0, false)
	}
	for _, k := range []int{0xb95, 0xbb9, 0x10000, 0x10ffff, math.MaxInt32, math.MinInt32, math.MaxInt, math.MaxInt - 1, math.MinInt, math.MinInt + 1} {
		stands(t, k, 0, false)
	}
	// These have the low bits of a place.
	for k := range 22 {
		for bit := 5; bit < 64; bit++ {
			stands(t, k|1<<bit, 0, false)
			stands(t, k-1<<bit, 0, false)
		}
	}
}

func TestRules(t *testing.T) { // P17.2, W2, W7
	for range 2 {
		rs := tamil.Rules()
		ruled(t, rs)
		if k, e := rule.Check(rs); k != -1 || e != 0 {
			t.Errorf("rule %d: %v", k, e)
		}
		back := rule.Turn(rs)
		if k, e := rule.Check(back); k != -1 || e != 0 || len(back) != len(rs) {
			t.Errorf("rule %d of %d the other way round: %v", k, len(back), e)
		}
	}
}

func TestRulesByName(t *testing.T) { // P17.2: the ends of each part, by hand
	rs := tamil.Rules()
	if len(rs) != 327 {
		t.Fatal(len(rs))
	}
	for k, want := range map[int]api.Rule{
		0: {In: []int{0}, Out: []int{0}}, 0x41: {In: []int{0x41}, Out: []int{0x41}}, 127: {In: []int{0x7f}, Out: []int{0x7f}},
		128: {In: []int{0x91}, Out: []int{0xb85}}, 133: {In: []int{0x96}, Out: []int{0xb8a}}, 134: {In: []int{0x97}, Out: []int{0xb8e}}, 137: {In: []int{0x9a}, Out: []int{0xb92}}, 139: {In: []int{0x9c}, Out: []int{0xb94}}, 140: {In: []int{0x9d}, Out: []int{0xb83}},
		141: {In: []int{0xa6}, Out: []int{0xbc6}}, 143: {In: []int{0xa8}, Out: []int{0xbc8}}, 144: {In: []int{0xa9}, Out: []int{0xbcd}}, 145: {In: []int{0xaa}, Out: []int{0xbbe}}, 149: {In: []int{0xae}, Out: []int{0xbc2}}, 150: {In: []int{0xaf}, Out: []int{0xbd7}},
		151: {In: []int{0xb0}, Out: []int{0xb95}}, 152: {In: []int{0xd0}, Out: []int{0xb95, 0xbcd}}, 153: {In: []int{0xa6, 0xb0}, Out: []int{0xb95, 0xbc6}}, 154: {In: []int{0xa7, 0xb0}, Out: []int{0xb95, 0xbc7}}, 155: {In: []int{0xa8, 0xb0}, Out: []int{0xb95, 0xbc8}},
		156: {In: []int{0xa6, 0xb0, 0xaa}, Out: []int{0xb95, 0xbca}}, 157: {In: []int{0xa7, 0xb0, 0xaa}, Out: []int{0xb95, 0xbcb}}, 158: {In: []int{0xa6, 0xb0, 0xaf}, Out: []int{0xb95, 0xbcc}},
		159: {In: []int{0xb1}, Out: []int{0xb99}}, 160: {In: []int{0xd1}, Out: []int{0xb99, 0xbcd}},
		319: {In: []int{0xc5}, Out: []int{0xbb9}}, 320: {In: []int{0xe5}, Out: []int{0xbb9, 0xbcd}}, 321: {In: []int{0xa6, 0xc5}, Out: []int{0xbb9, 0xbc6}}, 326: {In: []int{0xa6, 0xc5, 0xaf}, Out: []int{0xbb9, 0xbcc}},
	} {
		if !same(rs[k], want) {
			t.Errorf("rule %d is %x to %x, not %x to %x", k, rs[k].In, rs[k].Out, want.In, want.Out)
		}
	}
}

func TestVowelsAsText(t *testing.T) { // P17.2: the list read once more
	rs := tamil.Rules()
	c := 0x91
	for _, r := range writtenVowels {
		if k := rule.Find(rs, []int{c}); k < 0 || !slices.Equal(rs[k].Out, []int{int(r)}) {
			t.Errorf("%#x has the rule %d", c, k)
		}
		c++
	}
	if c != 0x9e {
		t.Errorf("%#x", c)
	}
}

func TestConsonantsOfRules(t *testing.T) { // P17.1, P17.2: the rules go by the order of Consonant
	rs := tamil.Rules()
	for k := range tamil.Consonants() {
		s, _ := tamil.Consonant(k)
		if j := rule.Find(rs, []int{0xb0 + k}); j < 0 || !slices.Equal(rs[j].Out, []int{s}) {
			t.Errorf("%#x has the rule %d", 0xb0+k, j)
		}
		if j := rule.Find(rs, []int{0xd0 + k}); j < 0 || !slices.Equal(rs[j].Out, []int{s, 0xbcd}) {
			t.Errorf("%#x has the rule %d", 0xd0+k, j)
		}
	}
}

func TestNoRuleForOtherBytes(t *testing.T) { // P17.2: the bytes without a meaning, and rows that have none together
	rs := tamil.Rules()
	for c := -1; c <= 0x100; c++ {
		is := c >= 0 && c < 0x80 || c >= 0x91 && c <= 0x9d || c >= 0xa6 && c <= 0xc5 || c >= 0xd0 && c <= 0xe5
		if got := rule.Find(rs, []int{c}) >= 0; got != is {
			t.Errorf("%#x has a rule: %t", c, got)
		}
	}
	for _, in := range [][]int{{}, {0xa9, 0xb0}, {0xaa, 0xb0}, {0xaf, 0xb0}, {0xb0, 0xaa}, {0xb0, 0xaf}, {0xb0, 0xa9}, {0xa8, 0xb0, 0xaa}, {0xa8, 0xb0, 0xaf}, {0xa7, 0xb0, 0xaf}, {0xa6, 0xb0, 0xab}, {0xa6, 0xd0}, {0xa7, 0xd0, 0xaa}, {0xa6, 0xc6}, {0xa6, 0xaf}, {0xa6, 0xa6, 0xb0}, {0xa6, 0x91}, {0xa6, 0x41}} {
		if k := rule.Find(rs, in); k >= 0 {
			t.Errorf("%x has the rule %d", in, k)
		}
	}
}

func TestExample(t *testing.T) { // P17.2
	us, bad := rewrite.Units(whole(t).Decode([]int{0xa6, 0xb0, 0xaa}))
	if !slices.Equal(us, []int{0xb95, 0xbca}) || bad.Err != 0 {
		t.Errorf("%x %v", us, bad)
	}
}

func TestWords(t *testing.T) { // P17.2, T2: words read, and written as they were
	x := whole(t)
	for word, in := range map[string][]int{
		"தமிழ்":       {0xb6, 0xb9, 0xab, 0xde},
		"சொல்":        {0xa6, 0xb2, 0xaa, 0xdc},
		"கோயில்":      {0xa7, 0xb0, 0xaa, 0xba, 0xab, 0xdc},
		"கௌ":          {0xa6, 0xb0, 0xaf},
		"பை, ஔ ஃ":     {0xa8, 0xb8, 0x2c, 0x20, 0x9c, 0x20, 0x9d},
		"பெண்ணே":      {0xa6, 0xb8, 0xd5, 0xa7, 0xb5},
		"ஜஷஸஹ":        {0xc2, 0xc3, 0xc4, 0xc5},
		"நூல் A~\x7f": {0xb7, 0xae, 0xdc, 0x20, 0x41, 0x7e, 0x7f},
	} {
		var out []int
		for _, r := range word {
			out = append(out, int(r))
		}
		us, bad := rewrite.Units(x.Decode(in))
		back, worse := rewrite.Units(x.Encode(out))
		if !slices.Equal(us, out) || bad.Err != 0 {
			t.Errorf("%x is read as %x, %v, not %x", in, us, bad, out)
		}
		if !slices.Equal(back, in) || worse.Err != 0 {
			t.Errorf("%x is written as %x, %v, not %x", out, back, worse, in)
		}
	}
}

func TestWrongWords(t *testing.T) { // P17.2: what is none of it, and what would be read otherwise
	x := whole(t)
	for _, y := range []struct {
		in []int
		at int
	}{{[]int{0x80}, 0}, {[]int{0x41, 0x90}, 1}, {[]int{0xa6, 0xb0, 0xcf}, 2}, {[]int{0xb0, 0xaa, 0xc6}, 2}, {[]int{0x9d, 0x9e}, 1}, {[]int{0xe5, 0xe6}, 1}, {[]int{0xa5}, 0}, {[]int{0xff}, 0}} {
		if _, bad := rewrite.Units(x.Decode(y.in)); bad.At != y.at || bad.Err != api.ErrMap {
			t.Errorf("%x is wrong at %v", y.in, bad)
		}
	}
	for _, y := range []struct {
		out []int
		at  int
	}{{[]int{0xbc6, 0xb95}, 1}, {[]int{0xbc8, 0xbb9}, 1}, {[]int{0xb95, 0xbc6, 0xbbe}, 2}, {[]int{0xb95, 0xbc6, 0xbd7}, 2}, {[]int{0xb95, 0xbc7, 0xbbe}, 2}, {[]int{0x41, 0xbca}, 1}, {[]int{0xbcc}, 0}, {[]int{0xb84}, 0}, {[]int{0x80}, 0}, {[]int{0xbba}, 0}} {
		if _, bad := rewrite.Units(x.Encode(y.out)); bad.At != y.at || bad.Err != api.ErrMap {
			t.Errorf("%x is wrong at %v", y.out, bad)
		}
	}
}

func TestRulesAreNewMemory(t *testing.T) { // W6: nothing done to an answer shows in another, nor in itself elsewhere
	kept := tamil.Rules()
	one, two := tamil.Rules(), tamil.Rules()
	want := ruling(t)
	if len(one) != len(want) || len(two) != len(want) {
		t.Fatal(len(one), len(two))
	}
	for k := range one {
		for j := range one[k].In {
			one[k].In[j] = -1
		}
		for j := range two[k].Out {
			two[k].Out[j] = -1
		}
		// Room behind a side may be another one's.
		one[k].In = append(one[k].In, -2)
		two[k].Out = append(two[k].Out, -2)
	}
	for k, r := range want {
		if slices.ContainsFunc(one[k].In, func(c int) bool { return c >= 0 }) || !slices.Equal(one[k].Out, r.Out) {
			t.Errorf("rule %d is %x to %x once each In is changed", k, one[k].In, one[k].Out)
		}
		if !slices.Equal(two[k].In, r.In) || slices.ContainsFunc(two[k].Out, func(c int) bool { return c >= 0 }) {
			t.Errorf("rule %d is %x to %x once each Out is changed", k, two[k].In, two[k].Out)
		}
	}
	ruled(t, kept)
	ruled(t, tamil.Rules())
	TestConsonants(t)
}
