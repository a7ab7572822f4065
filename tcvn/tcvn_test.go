package tcvn_test

import (
	"math"
	"slices"
	"strconv"
	"strings"
	"testing"
	"unicode"

	"lontar/api"
	"lontar/rule"
	"lontar/tcvn"
	"lontar/viet"
)

// chapter is the table of the bytes from 80 on, as the chapter has it.
const chapter = `
| a1 102, a2 c2, a3 ca, a4 d4, a5 1a0, a6 1af, a7 110, a8 103, a9 e2, aa ea |
| ab f4, ac 1a1, ad 1b0, ae 111, b5 e0, b6 1ea3, b7 e3, b8 e1, b9 1ea1, bb 1eb1 |
| bc 1eb3, bd 1eb5, be 1eaf, c6 1eb7, c7 1ea7, c8 1ea9, c9 1eab, ca 1ea5, cb 1ead, cc e8 |
| ce 1ebb, cf 1ebd, d0 e9, d1 1eb9, d2 1ec1, d3 1ec3, d4 1ec5, d5 1ebf, d6 1ec7, d7 ec |
| d8 1ec9, dc 129, dd ed, de 1ecb, df f2, e1 1ecf, e2 f5, e3 f3, e4 1ecd, e5 1ed3 |
| e6 1ed5, e7 1ed7, e8 1ed1, e9 1ed9, ea 1edd, eb 1edf, ec 1ee1, ed 1edb, ee 1ee3, ef f9 |
| f1 1ee7, f2 169, f3 fa, f4 1ee5, f5 1eeb, f6 1eed, f7 1eef, f8 1ee9, f9 1ef1, fa 1ef3 |
| fb 1ef7, fc 1ef9, fd fd, fe 1ef5 |
`

// read is the same table as text: the letters of the bytes from a1 on, a stop for each byte that has none.
const read = "ĂÂÊÔƠƯĐăâêôơưđ......àảãáạ.ằẳẵắ.......ặầẩẫấậè.ẻẽéẹềểễếệìỉ...ĩíịò.ỏõóọồổỗốộờởỡớợù.ủũúụừửữứựỳỷỹýỵ."

// pair is a byte and its scalar.
type pair struct {
	c byte
	s int
}

// hex is a number of the chapter.
func hex(t *testing.T, word string) int {
	t.Helper()
	n, err := strconv.ParseInt(word, 16, 64)
	if err != nil {
		t.Fatal(err)
	}
	return int(n)
}

// pairs are all bytes that have a scalar: those below 80, and those of the table in its order.
func pairs(t *testing.T) []pair {
	t.Helper()
	var ps []pair
	for c := range 0x80 {
		ps = append(ps, pair{byte(c), c})
	}
	for _, cell := range strings.FieldsFunc(chapter, func(r rune) bool { return strings.ContainsRune("|,\n", r) }) {
		words := strings.Fields(cell)
		if len(words) == 0 {
			continue
		}
		if len(words) != 2 {
			t.Fatal(cell)
		}
		ps = append(ps, pair{byte(hex(t, words[0])), hex(t, words[1])})
	}
	if len(ps) != 128+74 {
		t.Fatal(len(ps))
	}
	return ps
}

// scalars are those of the bytes that have one.
func scalars(t *testing.T) map[byte]int {
	t.Helper()
	all := map[byte]int{}
	for _, p := range pairs(t) {
		all[p.c] = p.s
	}
	if len(all) != 202 {
		t.Fatal(len(all))
	}
	return all
}

// bytes are those of all scalars that have one.
func bytes(t *testing.T) map[int]byte {
	t.Helper()
	all := map[int]byte{}
	for _, p := range pairs(t) {
		all[p.s] = p.c
	}
	// No scalar has two bytes, or the chapter would not say which one it is.
	if len(all) != 202 {
		t.Fatal(len(all))
	}
	return all
}

// decoded holds one answer of Decode; false is expected beside 0.
func decoded(t *testing.T, c byte, want int, is bool) {
	t.Helper()
	for range 2 {
		if s, ok := tcvn.Decode(c); s != want || ok != is {
			t.Errorf("Decode of %#x is %#x, %t, not %#x, %t", c, s, ok, want, is)
		}
	}
}

// encoded holds one answer of Encode; false is expected beside 0.
func encoded(t *testing.T, s int, want byte, is bool) {
	t.Helper()
	if c, ok := tcvn.Encode(s); c != want || ok != is {
		t.Errorf("Encode of %#x is %#x, %t, not %#x, %t", s, c, ok, want, is)
	}
}

func TestDecodeAndEncodeByName(t *testing.T) { // P12.1, P12.2, W2
	for _, p := range []pair{
		{0x00, 0}, {0x01, 1}, {0x02, 2}, {0x05, 5}, {0x06, 6}, {0x0a, 0x0a}, {0x14, 0x14}, {0x19, 0x19}, {0x1e, 0x1e}, {0x1f, 0x1f}, {' ', ' '}, {'0', '0'}, {'A', 'A'}, {'z', 'z'}, {0x7e, 0x7e}, {0x7f, 0x7f},
		{0xa1, 0x102}, {0xa6, 0x1af}, {0xa7, 0x110}, {0xa8, 0x103}, {0xad, 0x1b0}, {0xae, 0x111}, {0xb5, 0xe0}, {0xb8, 0xe1}, {0xb9, 0x1ea1}, {0xbb, 0x1eb1}, {0xbe, 0x1eaf},
		{0xc6, 0x1eb7}, {0xcc, 0xe8}, {0xce, 0x1ebb}, {0xd0, 0xe9}, {0xd5, 0x1ebf}, {0xd8, 0x1ec9}, {0xdc, 0x129}, {0xdf, 0xf2}, {0xe1, 0x1ecf}, {0xef, 0xf9}, {0xf1, 0x1ee7}, {0xf2, 0x169}, {0xfd, 0xfd}, {0xfe, 0x1ef5},
	} {
		decoded(t, p.c, p.s, true)
		for range 2 {
			encoded(t, p.s, p.c, true)
		}
	}
}

func TestDecodeOfEveryByte(t *testing.T) { // P12.1, W1, W3
	all := scalars(t)
	for c := range 256 {
		s, is := all[byte(c)]
		decoded(t, byte(c), s, is)
	}
}

func TestBytesWithoutScalar(t *testing.T) { // P12.1, W3: counted by hand from the chapter
	n := 0
	for _, x := range []struct{ first, last int }{{0x80, 0xa0}, {0xaf, 0xb4}, {0xba, 0xba}, {0xbf, 0xc5}, {0xcd, 0xcd}, {0xd9, 0xdb}, {0xe0, 0xe0}, {0xf0, 0xf0}, {0xff, 0xff}} {
		for c := x.first; c <= x.last; c++ {
			decoded(t, byte(c), 0, false)
			n++
		}
	}
	if n != 256-202 {
		t.Error(n)
	}
}

func TestDecodeAsText(t *testing.T) { // P12.1: the table read once more
	c := 0xa1
	for _, r := range read {
		if r == '.' {
			decoded(t, byte(c), 0, false)
		} else {
			decoded(t, byte(c), int(r), true)
		}
		c++
	}
	if c != 0x100 {
		t.Errorf("%#x", c)
	}
	var word []rune
	for _, c := range []byte{0x54, 0x69, 0xd5, 0x6e, 0x67} {
		s, ok := tcvn.Decode(c)
		if !ok {
			t.Errorf("%#x", c)
		}
		word = append(word, rune(s))
	}
	if string(word) != "Tiếng" {
		t.Error(string(word))
	}
}

func TestWhichLettersHaveAByte(t *testing.T) { // P12.1, P12.2: every lower-case one, of the upper-case ones those without a tone
	n := 0
	letters, ss := viet.All()
	for k, s := range ss {
		c, is := tcvn.Encode(s)
		if want := unicode.IsLower(rune(s)) || imag(letters[k].Sign) == 0; is != want {
			t.Errorf("%c has the byte %#x, %t", rune(s), c, is)
		}
		if s >= 0x80 && is {
			n++
		}
	}
	if n != 74 {
		t.Errorf("%d letters beyond 80", n)
	}
}

func TestEncodeOfEveryScalar(t *testing.T) { // P12.2, W3
	all := bytes(t)
	for s := -0x100; s <= 0x2100; s++ {
		c, is := all[s]
		encoded(t, s, c, is)
	}
	for s := 0x2101; s <= 0x110010; s++ {
		if c, ok := tcvn.Encode(s); c != 0 || ok {
			t.Errorf("Encode of %#x is %#x, %t", s, c, ok)
		}
	}
}

func TestEncodeOfWhatHasNoByte(t *testing.T) { // P12.2, W1, W3, W5
	for _, s := range []int{-1, -2, -0x80, -0xff, -0x100, 0x80, 0x9f, 0xa0, 0xa1, 0xc0, 0xc1, 0xc3, 0xc8, 0xd5, 0xdd, 0xe4, 0xfe, 0xff, 0x100, 0x101, 0x104, 0x128, 0x141, 0x168, 0x300, 0x301, 0xe01, 0x1ea0, 0x1eae, 0x1ebe, 0x1ef4, 0x1efa, 0x20ab, 0xd800, 0xfffd, 0x10ffff, 0x110000, math.MaxInt32, math.MinInt32, math.MaxInt, math.MaxInt - 1, math.MinInt, math.MinInt + 1} {
		encoded(t, s, 0, false)
	}
	// These have the low bits of a scalar that has a byte.
	for s := range bytes(t) {
		for bit := 13; bit < 64; bit++ {
			encoded(t, s|1<<bit, 0, false)
			encoded(t, s-1<<bit, 0, false)
		}
	}
}

func TestEncodeAndDecodeGoTogether(t *testing.T) { // P12.1, P12.2, T2
	for c := range 256 {
		if s, ok := tcvn.Decode(byte(c)); ok {
			encoded(t, s, byte(c), true)
		}
	}
	for s := range 0x2000 {
		if c, ok := tcvn.Encode(s); ok {
			decoded(t, c, s, true)
		}
	}
}

// ruled holds all rules.
func ruled(t *testing.T, rs []api.Rule) {
	t.Helper()
	if len(rs) != 202 {
		t.Fatalf("%d rules", len(rs))
	}
	for k, p := range pairs(t) {
		if r := rs[k]; !slices.Equal(r.In, []int{int(p.c)}) || !slices.Equal(r.Out, []int{p.s}) {
			t.Errorf("rule %d is %x to %x, not %x to %x", k, r.In, r.Out, p.c, p.s)
		}
	}
}

func TestRules(t *testing.T) { // P12.2, W2, W7: those below 80, and then those of the table
	for range 2 {
		rs := tcvn.Rules()
		ruled(t, rs)
		if k, e := rule.Check(rs); k != -1 || e != 0 {
			t.Errorf("rule %d: %v", k, e)
		}
	}
}

func TestRulesAreNewMemory(t *testing.T) { // W6: nothing done to an answer shows in another, nor in itself elsewhere
	kept := tcvn.Rules()
	one, two := tcvn.Rules(), tcvn.Rules()
	if len(one) != 202 || len(two) != 202 {
		t.Fatal(len(one), len(two))
	}
	for k := range one {
		one[k].In[0], two[k].Out[0] = -1, -1
		// Room behind a side may be another one's.
		one[k].In = append(one[k].In, -2)
		two[k].Out = append(two[k].Out, -2)
	}
	for k, p := range pairs(t) {
		if !slices.Equal(one[k].In, []int{-1, -2}) || !slices.Equal(one[k].Out, []int{p.s}) {
			t.Errorf("rule %d is %x to %x once each In is changed", k, one[k].In, one[k].Out)
		}
		if !slices.Equal(two[k].In, []int{int(p.c)}) || !slices.Equal(two[k].Out, []int{-1, -2}) {
			t.Errorf("rule %d is %x to %x once each Out is changed", k, two[k].In, two[k].Out)
		}
		decoded(t, p.c, p.s, true)
	}
	ruled(t, kept)
	ruled(t, tcvn.Rules())
}
