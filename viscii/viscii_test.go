package viscii_test

import (
	"math"
	"slices"
	"strconv"
	"strings"
	"testing"
	"unicode"

	"lontar/api"
	"lontar/viscii"
)

// low are the bytes below 80 whose scalars are not themselves, as P11.1 has them.
func low() map[byte]int {
	return map[byte]int{0x02: 0x1eb2, 0x05: 0x1eb4, 0x06: 0x1eaa, 0x14: 0x1ef6, 0x19: 0x1ef8, 0x1e: 0x1ef4}
}

// chapter is the table of the bytes from 80 on, as the chapter has it.
const chapter = `
| 80 | 1ea0 1eae 1eb0 1eb6 1ea4 1ea6 1ea8 1eac 1ebc 1eb8 1ebe 1ec0 1ec2 1ec4 1ec6 1ed0 |
| 90 | 1ed2 1ed4 1ed6 1ed8 1ee2 1eda 1edc 1ede 1eca 1ece 1ecc 1ec8 1ee6 168 1ee4 1ef2 |
| a0 | d5 1eaf 1eb1 1eb7 1ea5 1ea7 1ea9 1ead 1ebd 1eb9 1ebf 1ec1 1ec3 1ec5 1ec7 1ed1 |
| b0 | 1ed3 1ed5 1ed7 1ee0 1a0 1ed9 1edd 1edf 1ecb 1ef0 1ee8 1eea 1eec 1a1 1edb 1af |
| c0 | c0 c1 c2 c3 1ea2 102 1eb3 1eb5 c8 c9 ca 1eba cc cd 128 1ef3 |
| d0 | 110 1ee9 d2 d3 d4 1ea1 1ef7 1eeb 1eed d9 da 1ef9 1ef5 dd 1ee1 1b0 |
| e0 | e0 e1 e2 e3 1ea3 103 1eef 1eab e8 e9 ea 1ebb ec ed 129 1ec9 |
| f0 | 111 1ef1 f2 f3 f4 f5 1ecf 1ecd 1ee5 f9 fa 169 1ee7 fd 1ee3 1eee |
`

// hex is a number of the chapter.
func hex(t *testing.T, word string) int {
	t.Helper()
	n, err := strconv.ParseInt(word, 16, 64)
	if err != nil {
		t.Fatal(err)
	}
	return int(n)
}

// scalars are those of all bytes, by byte.
func scalars(t *testing.T) []int {
	t.Helper()
	var ss []int
	for c := range 0x80 {
		s, is := low()[byte(c)]
		if !is {
			s = c
		}
		ss = append(ss, s)
	}
	for _, line := range strings.Split(strings.TrimSpace(chapter), "\n") {
		f := strings.Split(line, "|")
		words := strings.Fields(f[2])
		if hex(t, strings.TrimSpace(f[1])) != len(ss) || len(words) != 16 {
			t.Fatal(line)
		}
		for _, word := range words {
			ss = append(ss, hex(t, word))
		}
	}
	if len(ss) != 256 {
		t.Fatal(len(ss))
	}
	return ss
}

// bytes are those of all scalars that have one.
func bytes(t *testing.T) map[int]byte {
	t.Helper()
	all := map[int]byte{}
	for c, s := range scalars(t) {
		all[s] = byte(c)
	}
	// No scalar has two bytes, or the chapter would not say which one it is.
	if len(all) != 256 {
		t.Fatal(len(all))
	}
	return all
}

// decoded holds one answer of Decode.
func decoded(t *testing.T, c byte, want int) {
	t.Helper()
	for range 2 {
		if s := viscii.Decode(c); s != want {
			t.Errorf("Decode of %#x is %#x, not %#x", c, s, want)
		}
	}
}

// encoded holds one answer of Encode; false is expected beside 0.
func encoded(t *testing.T, s int, want byte, is bool) {
	t.Helper()
	if c, ok := viscii.Encode(s); c != want || ok != is {
		t.Errorf("Encode of %#x is %#x, %t, not %#x, %t", s, c, ok, want, is)
	}
}

func TestDecodeAndEncodeByName(t *testing.T) { // P11.1, P11.2, W2
	for _, x := range []struct {
		c byte
		s int
	}{
		{0x00, 0}, {0x01, 1}, {0x02, 0x1eb2}, {0x03, 3}, {0x04, 4}, {0x05, 0x1eb4}, {0x06, 0x1eaa}, {0x07, 7}, {0x0a, 0x0a}, {0x13, 0x13}, {0x14, 0x1ef6}, {0x15, 0x15}, {0x18, 0x18}, {0x19, 0x1ef8}, {0x1a, 0x1a}, {0x1d, 0x1d}, {0x1e, 0x1ef4}, {0x1f, 0x1f},
		{' ', ' '}, {'0', '0'}, {'A', 'A'}, {'z', 'z'}, {0x7e, 0x7e}, {0x7f, 0x7f},
		{0x80, 0x1ea0}, {0x81, 0x1eae}, {0x8f, 0x1ed0}, {0x90, 0x1ed2}, {0x9d, 0x168}, {0x9f, 0x1ef2}, {0xa0, 0xd5}, {0xa1, 0x1eaf}, {0xaa, 0x1ebf}, {0xaf, 0x1ed1}, {0xb0, 0x1ed3}, {0xb3, 0x1ee0}, {0xb4, 0x1a0}, {0xbd, 0x1a1}, {0xbf, 0x1af},
		{0xc0, 0xc0}, {0xc5, 0x102}, {0xce, 0x128}, {0xcf, 0x1ef3}, {0xd0, 0x110}, {0xdf, 0x1b0}, {0xe0, 0xe0}, {0xe5, 0x103}, {0xe6, 0x1eef}, {0xef, 0x1ec9}, {0xf0, 0x111}, {0xf5, 0xf5}, {0xfb, 0x169}, {0xfe, 0x1ee3}, {0xff, 0x1eee},
	} {
		decoded(t, x.c, x.s)
		for range 2 {
			encoded(t, x.s, x.c, true)
		}
	}
}

func TestDecodeOfEveryByte(t *testing.T) { // P11.1, W1
	for c, s := range scalars(t) {
		decoded(t, byte(c), s)
	}
}

func TestAWord(t *testing.T) { // P11.1: the example of the whole document
	var ss []rune
	for _, c := range []byte{0x54, 0x69, 0xaa, 0x6e, 0x67} {
		ss = append(ss, rune(viscii.Decode(c)))
	}
	if string(ss) != "Tiếng" {
		t.Error(string(ss))
	}
}

func TestSmallAndGreatLetters(t *testing.T) { // P11.1, P11.2: what Unicode says of letters: each has both forms
	n := 0
	for c, s := range scalars(t) {
		if s < 0x80 {
			continue
		}
		if s < 0xc0 || s > 0x1eff || !unicode.IsLetter(rune(s)) {
			t.Errorf("%#x of %#x is no letter", s, c)
		}
		n++
		for _, other := range []int{int(unicode.ToUpper(rune(s))), int(unicode.ToLower(rune(s)))} {
			if d, ok := viscii.Encode(other); !ok || viscii.Decode(d) != other {
				t.Errorf("%#x, the other form of %#x, is %#x, %t", other, s, d, ok)
			}
		}
	}
	if n != 134 {
		t.Errorf("%d letters beyond 80", n)
	}
}

func TestEncodeOfEveryScalar(t *testing.T) { // P11.2, W3
	all := bytes(t)
	for s := -0x100; s <= 0x2100; s++ {
		c, is := all[s]
		encoded(t, s, c, is)
	}
	for s := 0x2101; s <= 0x110010; s++ {
		if c, ok := viscii.Encode(s); c != 0 || ok {
			t.Errorf("Encode of %#x is %#x, %t", s, c, ok)
		}
	}
}

func TestEncodeOfWhatHasNoByte(t *testing.T) { // P11.2, W1, W3, W5
	for c := range low() {
		encoded(t, int(c), 0, false) // the byte is a letter's
	}
	for _, s := range []int{-1, -2, -0x80, -0x100, -0xff, 0x80, 0x9f, 0xa0, 0xbf, 0xc4, 0xc5, 0xc7, 0xcb, 0xcf, 0xd0, 0xe5, 0xff, 0x100, 0x101, 0x104, 0x141, 0x300, 0x301, 0xe01, 0x1e9f, 0x1efa, 0x20ab, 0xd800, 0xfffd, 0x10ffff, 0x110000, math.MaxInt32, math.MinInt32, math.MaxInt, math.MaxInt - 1, math.MinInt, math.MinInt + 1} {
		encoded(t, s, 0, false)
	}
	// These have the low bits of a scalar that has a byte.
	for s := range bytes(t) {
		for bit := 13; bit < 64; bit++ {
			encoded(t, s|1<<bit, 0, false)
			encoded(t, s-1<<bit, 0, false)
		}
	}
}

func TestEncodeAndDecodeGoTogether(t *testing.T) { // P11.1, P11.2, T2
	for c := range 256 {
		encoded(t, viscii.Decode(byte(c)), byte(c), true)
	}
	for s := range 0x2000 {
		if c, ok := viscii.Encode(s); ok {
			decoded(t, c, s)
		}
	}
}

// ruled holds all rules.
func ruled(t *testing.T, rs []api.Rule) {
	t.Helper()
	if len(rs) != 256 {
		t.Fatalf("%d rules", len(rs))
	}
	for c, s := range scalars(t) {
		if r := rs[c]; !slices.Equal(r.In, []int{c}) || !slices.Equal(r.Out, []int{s}) {
			t.Errorf("rule %d is %x to %x, not %x to %x", c, r.In, r.Out, c, s)
		}
	}
}

func TestRules(t *testing.T) { // P11.2, W2, W7: one a byte, from 0 on
	for range 2 {
		ruled(t, viscii.Rules())
	}
}

func TestRulesAreNewMemory(t *testing.T) { // W6: nothing done to an answer shows in another, nor in itself elsewhere
	kept := viscii.Rules()
	one, two := viscii.Rules(), viscii.Rules()
	for c := range one {
		one[c].In[0], two[c].Out[0] = -1, -1
		// Room behind a side may be another one's.
		one[c].In = append(one[c].In, -2)
		two[c].Out = append(two[c].Out, -2)
	}
	for c, s := range scalars(t) {
		if !slices.Equal(one[c].In, []int{-1, -2}) || !slices.Equal(one[c].Out, []int{s}) {
			t.Errorf("rule %d is %x to %x once each In is changed", c, one[c].In, one[c].Out)
		}
		if !slices.Equal(two[c].In, []int{c}) || !slices.Equal(two[c].Out, []int{-1, -2}) {
			t.Errorf("rule %d is %x to %x once each Out is changed", c, two[c].In, two[c].Out)
		}
		decoded(t, byte(c), s)
	}
	ruled(t, kept)
	ruled(t, viscii.Rules())
}
