package vni_test

import (
	"maps"
	"math"
	"slices"
	"strconv"
	"strings"
	"testing"
	"unicode"

	"lontar/api"
	"lontar/rule"
	"lontar/viet"
	"lontar/vni"
)

// signs is the table of the bytes behind a base, as the chapter has it.
const signs = `
| mark | none | grave | acute | hook | tilde | dot |
| none, horn | | f8 | f9 | fb | f5 | ef |
| breve | ea | e8 | e9 | fa | fc | eb |
| circumflex | e2 | e0 | e1 | e5 | e3 | e4 |
`

// whole are the letters with a single byte, and these bytes, as the chapter has them.
const (
	whole      = "ec, ed, 1ec9, 129, 1ecb, 1ef5 and 111"
	wholeBytes = "ec, ed, e6, f3, f2, ee and f1"
)

// written is the lower-case letters in the order of viet.All and the bytes of each, by hand.
const written = `
a 61, à 61 f8, á 61 f9, ả 61 fb, ã 61 f5, ạ 61 ef
ă 61 ea, ằ 61 e8, ắ 61 e9, ẳ 61 fa, ẵ 61 fc, ặ 61 eb
â 61 e2, ầ 61 e0, ấ 61 e1, ẩ 61 e5, ẫ 61 e3, ậ 61 e4
e 65, è 65 f8, é 65 f9, ẻ 65 fb, ẽ 65 f5, ẹ 65 ef
ê 65 e2, ề 65 e0, ế 65 e1, ể 65 e5, ễ 65 e3, ệ 65 e4
i 69, ì ec, í ed, ỉ e6, ĩ f3, ị f2
o 6f, ò 6f f8, ó 6f f9, ỏ 6f fb, õ 6f f5, ọ 6f ef
ô 6f e2, ồ 6f e0, ố 6f e1, ổ 6f e5, ỗ 6f e3, ộ 6f e4
ơ f4, ờ f4 f8, ớ f4 f9, ở f4 fb, ỡ f4 f5, ợ f4 ef
u 75, ù 75 f8, ú 75 f9, ủ 75 fb, ũ 75 f5, ụ 75 ef
ư f6, ừ f6 f8, ứ f6 f9, ử f6 fb, ữ f6 f5, ự f6 ef
y 79, ỳ 79 f8, ý 79 f9, ỷ 79 fb, ỹ 79 f5, ỵ ee
d 64
đ f1
`

// pair is some bytes and their scalar.
type pair struct {
	in []int
	s  int
}

// hex are the numbers of words of the chapter.
func hex(t *testing.T, words string) []int {
	t.Helper()
	var ns []int
	for _, word := range strings.FieldsFunc(words, func(r rune) bool { return strings.ContainsRune(" ,", r) }) {
		if word == "and" {
			continue
		}
		n, err := strconv.ParseInt(word, 16, 64)
		if err != nil {
			t.Fatal(err)
		}
		ns = append(ns, int(n))
	}
	return ns
}

// lower are the lower-case letters in the order of viet.All, and their bytes as written by hand.
func lower(t *testing.T) []pair {
	t.Helper()
	var ps []pair
	for _, cell := range strings.FieldsFunc(written, func(r rune) bool { return r == ',' || r == '\n' }) {
		letter, bytes, _ := strings.Cut(strings.TrimSpace(cell), " ")
		rs := []rune(letter)
		if len(rs) != 1 {
			t.Fatal(cell)
		}
		ps = append(ps, pair{hex(t, bytes), int(rs[0])})
	}
	if len(ps) != 74 {
		t.Fatal(len(ps))
	}
	return ps
}

// table is the byte behind a base by mark and tone, for those that have one.
func table(t *testing.T) map[complex128]int {
	t.Helper()
	marks := map[string][]complex128{"none, horn": {0, viet.Horn}, "breve": {viet.Breve}, "circumflex": {viet.Circumflex}}
	tones := map[string]complex128{"none": 0, "grave": viet.Grave, "acute": viet.Acute, "hook": viet.Hook, "tilde": viet.Tilde, "dot": viet.Dot}
	all := map[complex128]int{}
	lines := strings.Split(strings.TrimSpace(signs), "\n")
	head := strings.Split(lines[0], "|")
	for _, line := range lines[1:] {
		cells := strings.Split(line, "|")
		if len(cells) != len(head) {
			t.Fatal(line)
		}
		for k := 2; k < len(cells)-1; k++ {
			tone, is := tones[strings.TrimSpace(head[k])]
			if !is {
				t.Fatal(head[k])
			}
			for _, c := range hex(t, cells[k]) {
				for _, mark := range marks[strings.TrimSpace(cells[1])] {
					all[mark+tone] = c
				}
			}
		}
	}
	if len(all) != 5+5+6+6 {
		t.Fatal(len(all))
	}
	return all
}

// said are a lower-case letter's bytes by the words of the chapter.
func said(t *testing.T, l viet.Letter, s int) []int {
	t.Helper()
	if k := slices.Index(hex(t, whole), s); k >= 0 {
		return hex(t, wholeBytes)[k : k+1]
	}
	in := []int{l.Base}
	if real(l.Sign) == real(viet.Horn) {
		in[0] = map[int]int{'o': 0xf4, 'u': 0xf6}[l.Base]
	}
	if c, is := table(t)[l.Sign]; is {
		in = append(in, c)
	}
	return in
}

// small holds one answer of Small.
func small(t *testing.T, l viet.Letter, want []int) {
	t.Helper()
	for range 2 {
		if got := vni.Small(l); !slices.Equal(got, want) {
			t.Errorf("Small of %c with %v is %x, not %x", rune(l.Base), l.Sign, got, want)
		}
	}
}

// split is a scalar's letter.
func split(t *testing.T, s int) viet.Letter {
	t.Helper()
	l, ok := viet.Split(s)
	if !ok {
		t.Fatalf("%#x is no letter", s)
	}
	return l
}

func TestSmallByName(t *testing.T) { // P13.1, W2
	for _, p := range []pair{
		{[]int{0x65, 0xe1}, 0x1ebf},
		{[]int{0xec}, 0xec}, {[]int{0xed}, 0xed}, {[]int{0xe6}, 0x1ec9}, {[]int{0xf3}, 0x129}, {[]int{0xf2}, 0x1ecb}, {[]int{0xee}, 0x1ef5}, {[]int{0xf1}, 0x111},
		{[]int{'a'}, 'a'}, {[]int{'d'}, 'd'}, {[]int{'i'}, 'i'}, {[]int{'y'}, 'y'},
		{[]int{0xf4}, 0x1a1}, {[]int{0xf6}, 0x1b0}, {[]int{0xf4, 0xf8}, 0x1edd}, {[]int{0xf6, 0xef}, 0x1ef1}, {[]int{0xf4, 0xf5}, 0x1ee1},
		{[]int{'a', 0xea}, 0x103}, {[]int{'a', 0xeb}, 0x1eb7}, {[]int{'a', 0xe2}, 0xe2}, {[]int{'o', 0xe4}, 0x1ed9}, {[]int{'o', 0xef}, 0x1ecd}, {[]int{'y', 0xf5}, 0x1ef9}, {[]int{'u', 0xfb}, 0x1ee7},
	} {
		small(t, split(t, p.s), p.in)
	}
	small(t, viet.Letter{Base: 'e', Sign: viet.Circumflex + viet.Acute}, []int{0x65, 0xe1})
}

func TestSmallOfEveryLowerCaseLetter(t *testing.T) { // P13.1: by the hand's list, and by the chapter's words
	letters, scalars := viet.All()
	for k, p := range lower(t) {
		if scalars[k] != p.s {
			t.Fatalf("letter %d is %#x, not %#x", k, scalars[k], p.s)
		}
		small(t, letters[k], p.in)
		small(t, letters[k], said(t, letters[k], p.s))
	}
}

func TestSmallHasTheSameBytesForNoTwo(t *testing.T) { // P13.1, T2
	n := 0
	letters, _ := viet.All()
	for k, l := range letters[:74] {
		for _, x := range letters[:k] {
			if slices.Equal(vni.Small(l), vni.Small(x)) {
				t.Errorf("%v and %v both have %x", l, x, vni.Small(l))
			}
			n++
		}
	}
	if n != 74*73/2 {
		t.Error(n)
	}
}

func TestSmallWithZeroSigns(t *testing.T) { // P13.1, W10: either zero is none
	zero := math.Copysign(0, -1)
	small(t, viet.Letter{Base: 'a', Sign: complex(zero, zero)}, []int{'a'})
	small(t, viet.Letter{Base: 'a', Sign: complex(zero, 2)}, []int{'a', 0xf9})
	small(t, viet.Letter{Base: 'a', Sign: complex(1, zero)}, []int{'a', 0xea})
	small(t, viet.Letter{Base: 'u', Sign: complex(3, zero)}, []int{0xf6})
	small(t, viet.Letter{Base: 'i', Sign: complex(zero, 1)}, []int{0xec})
	small(t, viet.Letter{Base: 'd', Sign: complex(4, zero)}, []int{0xf1})
}

// parts are numbers for a part of a sign: those that are marks or tones, and others.
func parts() []float64 {
	return []float64{0, 1, 2, 3, 4, 5, math.Copysign(0, -1), -1, -2, -3, -4, -5, 0.5, 1.5, 2.25, 3.5, 4.75, -0.5, 1e-300, math.SmallestNonzeroFloat64, math.Nextafter(1, 2), math.Nextafter(3, 2), 6, 7, 257, 1 << 32, 1 << 53, 1 << 62, 1 << 63, 1e300, math.MaxFloat64, math.Inf(1), math.Inf(-1), math.NaN()}
}

// bases are all numbers around the ASCII letters, and others with the low bits of some.
func bases() []int {
	bs := []int{0, math.MinInt, math.MinInt + 'a', math.MinInt + 'o', math.MaxInt, math.MaxInt - 1, math.MinInt32, math.MaxInt32, 1<<32 + 'o', 1<<8 + 'a', 1<<16 + 'e', 'a' - 256, 'u' - 1<<32, 0x103, 0x111, 0x129, 0x1a1, 0x1b0, 0x1ec9, 0x1ef5, 0x10ffff, 0x110000}
	for b := -0x21; b < 0x101; b++ {
		bs = append(bs, b)
	}
	return bs
}

func TestSmallOfAnyBaseAndSign(t *testing.T) { // P13.1, W1, W3: what is no letter has nothing
	want := map[viet.Letter][]int{}
	letters, _ := viet.All()
	for k, p := range lower(t) {
		want[letters[k]] = p.in
	}
	n := 0
	for _, b := range bases() {
		for _, mark := range parts() {
			for _, tone := range parts() {
				l := viet.Letter{Base: b, Sign: complex(mark, tone)}
				if got := vni.Small(l); slices.Contains(letters[74:], l) { // an upper-case one: it ends, and that is all
					n++
				} else if !slices.Equal(got, want[l]) {
					t.Errorf("Small of %#x with %v is %x, not %x", b, l.Sign, got, want[l])
				}
			}
		}
	}
	if n < 74 {
		t.Error(n)
	}
}

func TestSmallOfWhatIsNoLetter(t *testing.T) { // P13.1, W3
	for _, l := range []viet.Letter{
		{}, {Base: 'x'}, {Base: 'b'}, {Base: 'z'}, {Base: '`'}, {Base: '{'}, {Base: ' '}, {Base: 'f', Sign: viet.Dot}, {Base: 'w', Sign: viet.Breve},
		{Base: 'd', Sign: viet.Grave}, {Base: 'd', Sign: viet.Breve}, {Base: 'd', Sign: viet.Stroke + viet.Dot}, {Base: 'a', Sign: viet.Stroke},
		{Base: 'e', Sign: viet.Breve}, {Base: 'e', Sign: viet.Horn}, {Base: 'i', Sign: viet.Circumflex}, {Base: 'y', Sign: viet.Horn + viet.Tilde}, {Base: 'a', Sign: viet.Horn + viet.Acute}, {Base: 'u', Sign: viet.Circumflex},
		{Base: 'a', Sign: viet.Breve + viet.Stroke}, {Base: 'a', Sign: viet.Tilde + viet.Acute}, {Base: 'o', Sign: -viet.Horn}, {Base: 'o', Sign: -viet.Grave},
		{Base: 0xf4}, {Base: 0xf6, Sign: viet.Acute}, {Base: 0x1a1}, {Base: 0x1b0, Sign: viet.Dot}, {Base: 0xec}, {Base: 0x111}, {Base: 0xe2, Sign: viet.Acute},
	} {
		small(t, l, nil)
	}
}

// ruling are all rules, in their order.
func ruling(t *testing.T) []pair {
	t.Helper()
	ps := lower(t)
	for _, p := range lower(t) {
		var in []int
		for _, c := range p.in {
			in = append(in, c-0x20)
		}
		ps = append(ps, pair{in, int(unicode.ToUpper(rune(p.s)))})
	}
	for c := range 0x80 {
		if !strings.ContainsRune("aeiouydAEIOUYD", rune(c)) {
			ps = append(ps, pair{[]int{c}, c})
		}
	}
	if len(ps) != 74+74+114 {
		t.Fatal(len(ps))
	}
	return ps
}

// ruled holds all rules.
func ruled(t *testing.T, rs []api.Rule) {
	t.Helper()
	if len(rs) != 262 {
		t.Fatalf("%d rules", len(rs))
	}
	for k, p := range ruling(t) {
		if r := rs[k]; !slices.Equal(r.In, p.in) || !slices.Equal(r.Out, []int{p.s}) {
			t.Errorf("rule %d is %x to %x, not %x to %x", k, r.In, r.Out, p.in, p.s)
		}
	}
}

func TestRules(t *testing.T) { // P13.2, W2, W7
	for range 2 {
		rs := vni.Rules()
		ruled(t, rs)
		if k, e := rule.Check(rs); k != -1 || e != 0 {
			t.Errorf("rule %d: %v", k, e)
		}
		if k, e := rule.Check(rule.Turn(rs)); k != -1 || e != 0 {
			t.Errorf("rule %d the other way round: %v", k, e)
		}
	}
}

func TestRulesByName(t *testing.T) { // P13.2: the ends of each part, and the upper-case letters of each kind
	rs := vni.Rules()
	if len(rs) != 262 {
		t.Fatal(len(rs))
	}
	for k, want := range map[int]pair{
		0: {[]int{'a'}, 'a'}, 1: {[]int{'a', 0xf8}, 0xe0}, 72: {[]int{'d'}, 'd'}, 73: {[]int{0xf1}, 0x111},
		74: {[]int{'A'}, 'A'}, 75: {[]int{'A', 0xd8}, 0xc0}, 146: {[]int{'D'}, 'D'}, 147: {[]int{0xd1}, 0x110},
		148: {[]int{0}, 0}, 149: {[]int{1}, 1}, 260: {[]int{0x7e}, 0x7e}, 261: {[]int{0x7f}, 0x7f},
	} {
		if !slices.Equal(rs[k].In, want.in) || !slices.Equal(rs[k].Out, []int{want.s}) {
			t.Errorf("rule %d is %x to %x, not %x to %x", k, rs[k].In, rs[k].Out, want.in, want.s)
		}
	}
	for _, p := range []pair{
		{[]int{'E', 0xc1}, 0x1ebe}, {[]int{0xcc}, 0xcc}, {[]int{0xcd}, 0xcd}, {[]int{0xc6}, 0x1ec8}, {[]int{0xd3}, 0x128}, {[]int{0xd2}, 0x1eca}, {[]int{0xce}, 0x1ef4},
		{[]int{0xd4}, 0x1a0}, {[]int{0xd6}, 0x1af}, {[]int{0xd4, 0xdb}, 0x1ede}, {[]int{0xd6, 0xd5}, 0x1eee}, {[]int{'A', 0xdc}, 0x1eb4}, {[]int{'U', 0xcf}, 0x1ee4}, {[]int{'Y', 0xd9}, 0xdd},
		{[]int{'b'}, 'b'}, {[]int{'B'}, 'B'}, {[]int{'@'}, '@'}, {[]int{'z'}, 'z'},
	} {
		n := 0
		for _, r := range rs {
			if slices.Equal(r.In, p.in) && slices.Equal(r.Out, []int{p.s}) {
				n++
			}
		}
		if n != 1 {
			t.Errorf("%d rules from %x to %x", n, p.in, p.s)
		}
	}
}

func TestRulesSayEachScalarOnce(t *testing.T) { // P13.2: each letter and each byte below 80, and no other scalar
	seen := map[int]int{}
	for _, r := range vni.Rules() {
		for _, s := range r.Out {
			seen[s]++
		}
	}
	want := map[int]int{}
	for c := range 0x80 {
		want[c] = 1
	}
	_, scalars := viet.All()
	for _, s := range scalars {
		want[s] = 1
	}
	if !maps.Equal(seen, want) {
		t.Error(seen)
	}
}

func TestSmallIsNewMemory(t *testing.T) { // W6
	letters, _ := viet.All()
	for k, p := range lower(t) {
		one := vni.Small(letters[k])
		kept := vni.Small(letters[k])
		for j := range one {
			one[j] = -1
		}
		if !slices.Equal(kept, p.in) {
			t.Errorf("%x, not %x", kept, p.in)
		}
		small(t, letters[k], p.in)
	}
	ruled(t, vni.Rules())
}

func TestRulesAreNewMemory(t *testing.T) { // W6: nothing done to an answer shows in another, nor in itself elsewhere
	kept := vni.Rules()
	one, two := vni.Rules(), vni.Rules()
	if len(one) != 262 || len(two) != 262 {
		t.Fatal(len(one), len(two))
	}
	for k := range one {
		for j := range one[k].In {
			one[k].In[j] = -1
		}
		two[k].Out[0] = -1
		// Room behind a side may be another one's.
		one[k].In = append(one[k].In, -2)
		two[k].Out = append(two[k].Out, -2)
	}
	for k, p := range ruling(t) {
		if slices.ContainsFunc(one[k].In, func(c int) bool { return c >= 0 }) || !slices.Equal(one[k].Out, []int{p.s}) {
			t.Errorf("rule %d is %x to %x once each In is changed", k, one[k].In, one[k].Out)
		}
		if !slices.Equal(two[k].In, p.in) || !slices.Equal(two[k].Out, []int{-1, -2}) {
			t.Errorf("rule %d is %x to %x once each Out is changed", k, two[k].In, two[k].Out)
		}
	}
	ruled(t, kept)
	ruled(t, vni.Rules())
	letters, _ := viet.All()
	for k, p := range lower(t) {
		small(t, letters[k], p.in)
	}
}
