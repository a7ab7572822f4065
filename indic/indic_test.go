package indic_test

import (
	"maps"
	"math"
	"slices"
	"strconv"
	"strings"
	"testing"

	"lontar/api"
	"lontar/indic"
	"lontar/rule"
)

// The places of three runs of bytes, as the chapter has them.
const (
	fromA1 = "01 02 03 05 06 07 08 09 0a 0b 0e 0f 10 0d 12 13 14 11 15 16 17 18 19 1a 1b 1c 1d 1e 1f 20 21 22 23 24 25 26 27 28 29 2a 2b 2c 2d 2e 2f 5f 30 31 32 33 34 35 36 37 38 39"
	fromDa = "3e 3f 40 41 42 43 46 47 48 45 4a 4b 4c 49 4d 3c"
	fromF1 = "66 67 68 69 6a 6b 6c 6d 6e 6f"
)

// The rows of Nukta, the codes, and the last seven rules, as the chapter has them.
const (
	rows  = "a1 50, a6 0c, a7 61, aa 60, b3 58, b4 59, b5 5a, ba 5b, bf 5c, c0 5d, c9 5e, db 62, dc 63, df 44"
	codes = "42 43 4b 4a 47 44 45 48 49"
	last  = "d9: 400d, ea: 2964, ea e9: 3d, e8 e8: 4d 400c, e8 e9: 4d 400d, f0 b8: 52, f0 bf: 70"
)

// written are the letters of Devanagari that have a byte, from a1 on, by hand; a stop stands for each byte that has none.
// Vowel signs stand behind a dotted circle, as they have no shape alone.
const written = "◌ँ ◌ं ◌ः अ आ इ ई उ ऊ ऋ ऎ ए ऐ ऍ ऒ ओ औ ऑ " +
	"क ख ग घ ङ च छ ज झ ञ ट ठ ड ढ ण त थ द ध न ऩ प फ ब भ म य \u095f र ऱ ल ळ ऴ व श ष स ह " +
	". ◌ा ◌ि ◌ी ◌ु ◌ू ◌ृ ◌ॆ ◌े ◌ै ◌ॅ ◌ॊ ◌ो ◌ौ ◌ॉ ◌् ◌़ . . . . . . . ० १ २ ३ ४ ५ ६ ७ ८ ९ . . . . ."

// hex are the numbers of words of the chapter.
func hex(t *testing.T, words string) []int {
	t.Helper()
	var ns []int
	for _, word := range strings.Fields(words) {
		n, err := strconv.ParseInt(word, 16, 64)
		if err != nil {
			t.Fatal(err)
		}
		ns = append(ns, int(n))
	}
	return ns
}

// places are those of the bytes that have one.
func places(t *testing.T) map[byte]int {
	t.Helper()
	all := map[byte]int{}
	for first, words := range map[int]string{0xa1: fromA1, 0xda: fromDa, 0xf1: fromF1} {
		for k, p := range hex(t, words) {
			all[byte(first+k)] = p
		}
	}
	if len(all) != 82 {
		t.Fatal(len(all))
	}
	return all
}

// nuktas are the rows of Nukta.
func nuktas(t *testing.T) [][2]int {
	t.Helper()
	var all [][2]int
	for _, row := range strings.Split(rows, ",") {
		ns := hex(t, row)
		if len(ns) != 2 {
			t.Fatal(row)
		}
		all = append(all, [2]int(ns))
	}
	if len(all) != 14 {
		t.Fatal(len(all))
	}
	return all
}

// placed holds one answer of Place; false is expected beside 0.
func placed(t *testing.T, c byte, want int, is bool) {
	t.Helper()
	for range 2 {
		if p, ok := indic.Place(c); p != want || ok != is {
			t.Errorf("Place of %#x is %#x, %t, not %#x, %t", c, p, ok, want, is)
		}
	}
}

// coded holds one answer of Code; false is expected beside 0.
func coded(t *testing.T, s indic.Script, want int, is bool) {
	t.Helper()
	for range 2 {
		if c, ok := indic.Code(s); c != want || ok != is {
			t.Errorf("Code of %d is %#x, %t, not %#x, %t", s, c, ok, want, is)
		}
	}
}

// belongs holds one answer of Of; false is expected beside zeros.
func belongs(t *testing.T, s int, script indic.Script, place int, is bool) {
	t.Helper()
	for range 2 {
		if x, p, ok := indic.Of(s); x != script || p != place || ok != is {
			t.Errorf("Of %#x is %d, %#x, %t, not %d, %#x, %t", s, x, p, ok, script, place, is)
		}
	}
}

func TestConstants(t *testing.T) { // P14.1, P14.3
	for k, s := range []indic.Script{indic.Devanagari, indic.Bengali, indic.Gurmukhi, indic.Gujarati, indic.Oriya, indic.Tamil, indic.Telugu, indic.Kannada, indic.Malayalam, indic.Scripts} {
		if int(s) != k {
			t.Error(k, s)
		}
	}
	if indic.Block != 0x80 || indic.First != 0x900 || indic.Switch != 0x1000 || indic.Plain != 0x2000 {
		t.Error(indic.Block, indic.First, indic.Switch, indic.Plain)
	}
}

func TestPlaceByName(t *testing.T) { // P14.2: the ends of each run, and those out of order
	for c, want := range map[byte]int{0xa1: 1, 0xa3: 3, 0xa4: 5, 0xaa: 0x0b, 0xab: 0x0e, 0xad: 0x10, 0xae: 0x0d, 0xaf: 0x12, 0xb1: 0x14, 0xb2: 0x11, 0xb3: 0x15, 0xcd: 0x2f, 0xce: 0x5f, 0xcf: 0x30, 0xd8: 0x39, 0xda: 0x3e, 0xdf: 0x43, 0xe0: 0x46, 0xe2: 0x48, 0xe3: 0x45, 0xe4: 0x4a, 0xe6: 0x4c, 0xe7: 0x49, 0xe8: 0x4d, 0xe9: 0x3c, 0xf1: 0x66, 0xfa: 0x6f} {
		placed(t, c, want, true)
	}
	for _, c := range []byte{0, 0x01, 0x0a, 0x21, 0x41, 0x5a, 0x7f, 0x80, 0x9f, 0xa0, 0xd9, 0xea, 0xeb, 0xee, 0xef, 0xf0, 0xfb, 0xfc, 0xff} {
		placed(t, c, 0, false)
	}
}

func TestPlaceOfEveryByte(t *testing.T) { // P14.2, W1, W2, W3
	all := places(t)
	for c := range 0x100 {
		p, is := all[byte(c)]
		placed(t, byte(c), p, is)
	}
}

func TestPlaceAsText(t *testing.T) { // P14.1, P14.2: the runs read once more
	c := 0xa1
	for _, word := range strings.Fields(written) {
		rs := []rune(strings.TrimPrefix(word, "◌"))
		if len(rs) != 1 {
			t.Fatal(word)
		}
		if word == "." {
			placed(t, byte(c), 0, false)
		} else if p, ok := indic.Place(byte(c)); !ok || indic.Scalar(indic.Devanagari, p) != int(rs[0]) {
			t.Errorf("%#x has the place %#x, %t, not that of %s", c, p, ok, word)
		}
		c++
	}
	if c != 0x100 {
		t.Errorf("%#x", c)
	}
}

func TestNoTwoBytesHaveTheSamePlace(t *testing.T) { // P14.2, T2
	seen := map[int]int{}
	for c := range 0x100 {
		if p, ok := indic.Place(byte(c)); ok {
			if other, is := seen[p]; is || p < 0 || p >= indic.Block {
				t.Errorf("%#x has the place %#x, as %#x has", c, p, other)
			}
			seen[p] = c
		}
	}
	for _, row := range indic.Nukta() {
		if _, is := seen[row[1]]; is {
			t.Errorf("%x", row)
		}
		seen[row[1]] = row[0]
	}
	if len(seen) != 82+14 {
		t.Error(len(seen))
	}
}

func TestNukta(t *testing.T) { // P14.2, W2, W7
	for range 2 {
		if got := indic.Nukta(); !slices.Equal(got, nuktas(t)) {
			t.Errorf("%x", got)
		}
	}
	// Each of these bytes has a place alone, too.
	for _, row := range indic.Nukta() {
		if _, ok := indic.Place(byte(row[0])); !ok {
			t.Errorf("%x", row)
		}
	}
}

func TestNuktaIsNewMemory(t *testing.T) { // W6
	kept, one := indic.Nukta(), indic.Nukta()
	for k := range one {
		one[k] = [2]int{-1, -1}
	}
	one = append(one[:0], [2]int{-2, -2})
	if len(one) != 1 || !slices.Equal(kept, nuktas(t)) || !slices.Equal(indic.Nukta(), nuktas(t)) {
		t.Errorf("%x %x", kept, indic.Nukta())
	}
	ruled(t, indic.Rules())
}

func TestCode(t *testing.T) { // P14.1
	for s, want := range hex(t, codes) {
		coded(t, indic.Script(s), want, true)
	}
	for s, want := range map[indic.Script]int{indic.Devanagari: 0x42, indic.Bengali: 0x43, indic.Gurmukhi: 0x4b, indic.Gujarati: 0x4a, indic.Oriya: 0x47, indic.Tamil: 0x44, indic.Telugu: 0x45, indic.Kannada: 0x48, indic.Malayalam: 0x49} {
		coded(t, s, want, true)
	}
}

func TestCodeOfWhatIsNoScript(t *testing.T) { // P14.1, W1, W3, W5
	for _, s := range []int{-1, -2, -9, -0x80, 9, 10, 0x42, 0x80, 0xff, 0x100, 0x900, 0x10000, 0x100000000, math.MaxInt32, math.MinInt32, math.MaxInt, math.MinInt} {
		coded(t, indic.Script(s), 0, false)
	}
	coded(t, indic.Scripts, 0, false)
	// These have the low bits of a script.
	for s := range indic.Scripts {
		for bit := 4; bit < 64; bit++ {
			coded(t, s|1<<bit, 0, false)
			coded(t, s-1<<bit, 0, false)
		}
	}
}

func TestOfByName(t *testing.T) { // P14.1: each block's ends, and what stands around the danda
	for s, want := range map[int][2]int{
		0x900: {0, 0}, 0x915: {0, 0x15}, 0x963: {0, 0x63}, 0x965: {0, 0x65}, 0x97f: {0, 0x7f},
		0x980: {1, 0}, 0x995: {1, 0x15}, 0x9e4: {1, 0x64}, 0x9ff: {1, 0x7f}, 0xa00: {2, 0}, 0xa15: {2, 0x15}, 0xa7f: {2, 0x7f}, 0xa80: {3, 0}, 0xaff: {3, 0x7f},
		0xb00: {4, 0}, 0xb7f: {4, 0x7f}, 0xb80: {5, 0}, 0xbff: {5, 0x7f}, 0xc00: {6, 0}, 0xc7f: {6, 0x7f}, 0xc80: {7, 0}, 0xcff: {7, 0x7f}, 0xd00: {8, 0}, 0xd64: {8, 0x64}, 0xd7f: {8, 0x7f},
	} {
		belongs(t, s, indic.Script(want[0]), want[1], true)
	}
	for _, s := range []int{0x964, 0x8ff, 0xd80, 0, 1, 0x41, 0x64, 0x80, 0x880, 0x100, 0xdff, 0xe01, 0x1000, 0x2000, 0x200c, 0x200d, 0x2964, 0x10ffff, 0x110000} {
		belongs(t, s, 0, 0, false)
	}
}

func TestOfEveryScalar(t *testing.T) { // P14.1, W3: the nine blocks one behind the other
	s := 0x900
	for script := range 9 {
		for place := range 0x80 {
			if s == 0x964 {
				belongs(t, s, 0, 0, false)
			} else {
				belongs(t, s, indic.Script(script), place, true)
			}
			s++
		}
	}
	if s != 0xd80 {
		t.Fatalf("%#x", s)
	}
	for s := -0x2000; s < 0x900; s++ {
		belongs(t, s, 0, 0, false)
	}
	for s := 0xd80; s <= 0x110010; s++ {
		belongs(t, s, 0, 0, false)
	}
}

func TestOfWhatIsNoScalar(t *testing.T) { // P14.1, W1, W3, W5
	for _, s := range []int{-1, -0x80, -0x900, -0x915, math.MaxInt32, math.MinInt32, math.MaxInt, math.MaxInt - 1, math.MinInt, math.MinInt + 1, math.MinInt + 0x900} {
		belongs(t, s, 0, 0, false)
	}
	// These have the low bits of a scalar of a script.
	for s := 0x900; s < 0xd80; s += 0x15 {
		for bit := 12; bit < 64; bit++ {
			belongs(t, s|1<<bit, 0, 0, false)
			belongs(t, s-1<<bit, 0, 0, false)
		}
	}
}

func TestScalar(t *testing.T) { // P14.1
	s := 0x900
	for script := range indic.Scripts {
		for place := range indic.Block {
			if got := indic.Scalar(script, place); got != s {
				t.Errorf("Scalar of %d, %#x is %#x, not %#x", script, place, got, s)
			}
			if s != 0x964 {
				belongs(t, indic.Scalar(script, place), script, place, true)
			}
			s++
		}
	}
}

func TestScalarOfAnyNumbers(t *testing.T) { // P14.1, W1, W2, W5: the sum, whatever it is made of
	for _, x := range []struct{ s, place, want int }{
		{0, 0x64, 0x964}, {9, 0, 0xd80}, {9, 0x7f, 0xdff}, {-1, 0, 0x880}, {-1, 0x80, 0x900}, {0, -1, 0x8ff}, {1, -0x80, 0x900}, {8, 0x80, 0xd80}, {0, 0x100, 0xa00}, {-18, 0, 0}, {-18, -1, -1}, {2, 0x1000, 0x1a00}, {0x100, 0, 0x8900}, {1 << 32, 1, 0x8000000901},
		{0, math.MaxInt - 0x900, math.MaxInt}, {0, math.MaxInt, math.MinInt + 0x8ff}, {0, math.MinInt, math.MinInt + 0x900}, {1, math.MaxInt, math.MinInt + 0x97f}, {-18, math.MaxInt, math.MaxInt}, {-19, math.MinInt, math.MaxInt - 0x7f},
		{math.MaxInt, 0, 0x880}, {math.MinInt, 0, 0x900}, {math.MinInt + 1, 2, 0x982}, {1 << 57, 7, 0x907}, {1 << 56, 0, math.MinInt + 0x900}, {math.MaxInt, math.MaxInt, math.MinInt + 0x87f}, {math.MinInt, math.MinInt, math.MinInt + 0x900},
	} {
		for range 2 {
			if got := indic.Scalar(indic.Script(x.s), x.place); got != x.want {
				t.Errorf("Scalar of %d, %#x is %#x, not %#x", x.s, x.place, got, x.want)
			}
		}
	}
}

func TestExample(t *testing.T) { // P14.1, P14.2
	p, ok := indic.Place(0xb3)
	if s := indic.Scalar(indic.Devanagari, p); !ok || p != 0x15 || s != 0x915 {
		t.Errorf("%#x, %t, %#x", p, ok, s)
	}
}

// ruling are all rules, in their order.
func ruling(t *testing.T) []api.Rule {
	t.Helper()
	var rs []api.Rule
	for c := range 0x80 {
		rs = append(rs, api.Rule{In: []int{c}, Out: []int{0x2000 + c}})
	}
	all := places(t)
	for _, c := range slices.Sorted(maps.Keys(all)) {
		rs = append(rs, api.Rule{In: []int{int(c)}, Out: []int{all[c]}})
	}
	for _, row := range nuktas(t) {
		rs = append(rs, api.Rule{In: []int{row[0], 0xe9}, Out: []int{row[1]}})
	}
	for s, c := range hex(t, codes) {
		rs = append(rs, api.Rule{In: []int{0xef, c}, Out: []int{0x1000 + s}})
	}
	for _, words := range strings.Split(last, ",") {
		in, out, _ := strings.Cut(words, ":")
		rs = append(rs, api.Rule{In: hex(t, in), Out: hex(t, out)})
	}
	if len(rs) != 128+82+14+9+7 {
		t.Fatal(len(rs))
	}
	return rs
}

// same tells whether two rules have the same units.
func same(a, b api.Rule) bool {
	return slices.Equal(a.In, b.In) && slices.Equal(a.Out, b.Out)
}

// ruled holds all rules.
func ruled(t *testing.T, rs []api.Rule) {
	t.Helper()
	want := ruling(t)
	if len(rs) != len(want) {
		t.Fatalf("%d rules", len(rs))
	}
	for k, r := range rs {
		if !same(r, want[k]) {
			t.Errorf("rule %d is %x to %x, not %x to %x", k, r.In, r.Out, want[k].In, want[k].Out)
		}
	}
}

func TestRules(t *testing.T) { // P14.3, W2, W7
	for range 2 {
		rs := indic.Rules()
		ruled(t, rs)
		if k, e := rule.Check(rs); k != -1 || e != 0 {
			t.Errorf("rule %d: %v", k, e)
		}
		if k, e := rule.Check(rule.Turn(rs)); k != -1 || e != 0 {
			t.Errorf("rule %d the other way round: %v", k, e)
		}
	}
}

func TestRulesByName(t *testing.T) { // P14.3: the ends of each part, by hand
	rs := indic.Rules()
	if len(rs) != 240 {
		t.Fatal(len(rs))
	}
	for k, want := range map[int]api.Rule{
		0: {In: []int{0}, Out: []int{0x2000}}, 0x42: {In: []int{0x42}, Out: []int{0x2042}}, 127: {In: []int{0x7f}, Out: []int{0x207f}},
		128: {In: []int{0xa1}, Out: []int{1}}, 183: {In: []int{0xd8}, Out: []int{0x39}}, 184: {In: []int{0xda}, Out: []int{0x3e}}, 199: {In: []int{0xe9}, Out: []int{0x3c}}, 200: {In: []int{0xf1}, Out: []int{0x66}}, 209: {In: []int{0xfa}, Out: []int{0x6f}},
		210: {In: []int{0xa1, 0xe9}, Out: []int{0x50}}, 214: {In: []int{0xb3, 0xe9}, Out: []int{0x58}}, 223: {In: []int{0xdf, 0xe9}, Out: []int{0x44}},
		224: {In: []int{0xef, 0x42}, Out: []int{0x1000}}, 226: {In: []int{0xef, 0x4b}, Out: []int{0x1002}}, 232: {In: []int{0xef, 0x49}, Out: []int{0x1008}},
		233: {In: []int{0xd9}, Out: []int{0x400d}}, 234: {In: []int{0xea}, Out: []int{0x2964}}, 235: {In: []int{0xea, 0xe9}, Out: []int{0x3d}}, 236: {In: []int{0xe8, 0xe8}, Out: []int{0x4d, 0x400c}}, 237: {In: []int{0xe8, 0xe9}, Out: []int{0x4d, 0x400d}}, 238: {In: []int{0xf0, 0xb8}, Out: []int{0x52}}, 239: {In: []int{0xf0, 0xbf}, Out: []int{0x70}},
	} {
		if !same(rs[k], want) {
			t.Errorf("rule %d is %x to %x, not %x to %x", k, rs[k].In, rs[k].Out, want.In, want.Out)
		}
	}
}

func TestNoRuleForOtherBytes(t *testing.T) { // P14.3: the bytes without a meaning, alone and behind others
	rs := indic.Rules()
	for c := 0x80; c < 0x100; c++ {
		_, is := places(t)[byte(c)]
		is = is || c == 0xd9 || c == 0xea
		if got := rule.Find(rs, []int{c}) >= 0; got != is {
			t.Errorf("%#x has a rule: %t", c, got)
		}
	}
	for _, in := range [][]int{{0xe9, 0xe9}, {0xef}, {0xf0}, {0xef, 0x41}, {0xef, 0x46}, {0xef, 0x4c}, {0xef, 0xe9}, {0xf0, 0xb7}, {0xf0, 0xe9}, {0xe8, 0xe8, 0xe9}, {0xd9, 0xe9}, {0xa2, 0xe9}, {0x42, 0xe9}, {}} {
		if k := rule.Find(rs, in); k >= 0 {
			t.Errorf("%x has the rule %d", in, k)
		}
	}
}

func TestRulesAreNewMemory(t *testing.T) { // W6: nothing done to an answer shows in another, nor in itself elsewhere
	kept := indic.Rules()
	one, two := indic.Rules(), indic.Rules()
	want := ruling(t)
	if len(one) != len(want) || len(two) != len(want) {
		t.Fatal(len(one), len(two))
	}
	for k := range one {
		for j := range one[k].In {
			one[k].In[j] = -1
		}
		for j := range two[k].Out {
			two[k].Out[j] = -1
		}
		// Room behind a side may be another one's.
		one[k].In = append(one[k].In, -2)
		two[k].Out = append(two[k].Out, -2)
	}
	for k, r := range want {
		if slices.ContainsFunc(one[k].In, func(c int) bool { return c >= 0 }) || !slices.Equal(one[k].Out, r.Out) {
			t.Errorf("rule %d is %x to %x once each In is changed", k, one[k].In, one[k].Out)
		}
		if !slices.Equal(two[k].In, r.In) || slices.ContainsFunc(two[k].Out, func(c int) bool { return c >= 0 }) {
			t.Errorf("rule %d is %x to %x once each Out is changed", k, two[k].In, two[k].Out)
		}
	}
	ruled(t, kept)
	ruled(t, indic.Rules())
	all := places(t)
	for c := range 0x100 {
		p, is := all[byte(c)]
		placed(t, byte(c), p, is)
	}
	if !slices.Equal(indic.Nukta(), nuktas(t)) {
		t.Error("Nukta")
	}
}
