package thai_test

import (
	"math"
	"testing"

	"lontar/thai"
)

// span is bytes from first to last, and what is said of all of them.
type span struct {
	first, last byte
	class       thai.Class
}

func one(c byte, class thai.Class) span { return span{c, c, class} }

// words are the classes as P7.2 has them, one beside the other: the first one that applies holds, and Non for what is in none.
func words() []span {
	return []span{
		{0x00, 0x1f, thai.Ctrl}, {0x7f, 0x9f, thai.Ctrl},
		one(0xc4, thai.Fv3), one(0xc6, thai.Fv3),
		{0xa1, 0xce, thai.Cons},
		one(0xd0, thai.Fv1), one(0xd2, thai.Fv1), one(0xd3, thai.Fv1),
		one(0xd1, thai.Av2), one(0xd6, thai.Av2),
		one(0xd4, thai.Av1),
		one(0xd5, thai.Av3), one(0xd7, thai.Av3),
		one(0xd8, thai.Bv1),
		one(0xd9, thai.Bv2),
		one(0xda, thai.Bd),
		{0xe0, 0xe4, thai.Lv},
		one(0xe5, thai.Fv2),
		one(0xe7, thai.Ad2),
		{0xe8, 0xeb, thai.Tone},
		one(0xec, thai.Ad1), one(0xed, thai.Ad1),
		one(0xee, thai.Ad3),
	}
}

// classOf is what the words say of a byte.
func classOf(c byte) thai.Class {
	for _, w := range words() {
		if w.first <= c && c <= w.last {
			return w.class
		}
	}
	return thai.Non
}

// decoded holds one answer of Decode; false is expected beside 0.
func decoded(t *testing.T, c byte, want int, is bool) {
	t.Helper()
	for range 2 {
		if s, ok := thai.Decode(c); s != want || ok != is {
			t.Errorf("Decode of %#x is %#x, %t, not %#x, %t", c, s, ok, want, is)
		}
	}
}

// encoded holds one answer of Encode; false is expected beside 0.
func encoded(t *testing.T, s int, want byte, is bool) {
	t.Helper()
	for range 2 {
		if c, ok := thai.Encode(s); c != want || ok != is {
			t.Errorf("Encode of %#x is %#x, %t, not %#x, %t", s, c, ok, want, is)
		}
	}
}

// scalars are those of the three runs of bytes that have some, counted up one by one, with their bytes.
func scalars() map[int]byte {
	bytes := map[int]byte{}
	for k := range 0x80 {
		bytes[k] = byte(k)
	}
	for k := range 0x3a {
		bytes[0xe01+k] = byte(0xa1 + k)
	}
	for k := range 0x1d {
		bytes[0xe3f+k] = byte(0xdf + k)
	}
	return bytes
}

func TestDecodeByName(t *testing.T) { // P7.1
	for _, x := range []struct {
		c byte
		s int
	}{{0, 0}, {1, 1}, {0x1f, 0x1f}, {0x20, 0x20}, {0x41, 0x41}, {0x7e, 0x7e}, {0x7f, 0x7f}, {0xa1, 0xe01}, {0xa2, 0xe02}, {0xc4, 0xe24}, {0xc6, 0xe26}, {0xce, 0xe2e}, {0xcf, 0xe2f}, {0xd0, 0xe30}, {0xd9, 0xe39}, {0xda, 0xe3a}, {0xdf, 0xe3f}, {0xe0, 0xe40}, {0xe6, 0xe46}, {0xee, 0xe4e}, {0xef, 0xe4f}, {0xf0, 0xe50}, {0xf9, 0xe59}, {0xfa, 0xe5a}, {0xfb, 0xe5b}} {
		decoded(t, x.c, x.s, true)
		encoded(t, x.s, x.c, true)
	}
}

func TestBytesWithoutScalar(t *testing.T) { // P7.1, W3
	n := 0
	for _, x := range []span{{0x80, 0xa0, 0}, {0xdb, 0xde, 0}, {0xfc, 0xff, 0}} {
		for c := int(x.first); c <= int(x.last); c++ {
			decoded(t, byte(c), 0, false)
			// Neither the byte itself nor what would be its place among the Thai scalars has a byte.
			encoded(t, c, 0, false)
			encoded(t, 0xe00+c-0xa0, 0, false)
			n++
		}
	}
	if n != 41 {
		t.Error(n)
	}
}

func TestEveryByteHasItsScalarOrNone(t *testing.T) { // P7.1
	all := scalars()
	if len(all) != 256-41 {
		t.Fatal(len(all))
	}
	seen := map[byte]int{}
	for s, c := range all {
		decoded(t, c, s, true)
		seen[c]++
	}
	for c := range 256 {
		if seen[byte(c)] == 0 {
			decoded(t, byte(c), 0, false)
		} else if seen[byte(c)] > 1 {
			t.Errorf("%#x is in the list twice", c)
		}
	}
}

func TestEncodeOfEveryScalar(t *testing.T) { // P7.1
	all := scalars()
	for s := -0x1000; s <= 0x110100; s++ {
		c, is := all[s]
		encoded(t, s, c, is)
	}
}

func TestEncodeOfNumbersThatAreNoScalars(t *testing.T) { // P7.1, W1, W3, W5
	for _, s := range []int{-1, -0x80, -0xff, -0x100, -0x1f5f, 0x80, 0xff, 0x100, 0x141, 0xdff, 0xe00, 0xe3b, 0xe3e, 0xe5c, 0xe5f, 0xe60, 0xeff, 0xf01, 0xd800, 0xfffd, 0x10ffff, 0x110000, math.MaxInt32, math.MinInt32, math.MaxInt, math.MaxInt - 1, math.MinInt, math.MinInt + 1, math.MinInt + 0x41, math.MinInt + 0xe01, math.MinInt + 0xd60 + 0xa1} {
		encoded(t, s, 0, false)
	}
	// These have the low bits of a scalar that has a byte.
	for s := range scalars() {
		for bit := 12; bit < 64; bit++ {
			encoded(t, s|1<<bit, 0, false)
			encoded(t, s-1<<bit, 0, false)
		}
		for _, off := range []int{0x1000, 0x8000, 0x10000, 1 << 20, 1 << 32, 1 << 40, math.MinInt} {
			encoded(t, s+off, 0, false)
			encoded(t, s-off, 0, false)
		}
	}
}

func TestEncodeAndDecodeGoTogether(t *testing.T) { // P7.1
	for c := range 256 {
		s, ok := thai.Decode(byte(c))
		if !ok {
			continue
		}
		encoded(t, s, byte(c), true)
	}
	for s := range 0x1100 {
		c, ok := thai.Encode(s)
		if !ok {
			continue
		}
		decoded(t, c, s, true)
	}
}

func TestClassesAreInTheirOrder(t *testing.T) { // P7.2: the order is that of the chapter's list
	for k, x := range []thai.Class{thai.Ctrl, thai.Non, thai.Cons, thai.Lv, thai.Fv1, thai.Fv2, thai.Fv3, thai.Bv1, thai.Bv2, thai.Bd, thai.Tone, thai.Ad1, thai.Ad2, thai.Ad3, thai.Av1, thai.Av2, thai.Av3, thai.Classes} {
		if int(x) != k {
			t.Errorf("class %d is %d", k, x)
		}
	}
}

func TestOfByName(t *testing.T) { // P7.2
	for _, x := range []span{
		one(0x00, thai.Ctrl), one(0x0a, thai.Ctrl), one(0x1f, thai.Ctrl), one(0x20, thai.Non), one(0x41, thai.Non), one(0x7e, thai.Non), one(0x7f, thai.Ctrl), one(0x80, thai.Ctrl), one(0x9f, thai.Ctrl), one(0xa0, thai.Non),
		one(0xa1, thai.Cons), one(0xc3, thai.Cons), one(0xc4, thai.Fv3), one(0xc5, thai.Cons), one(0xc6, thai.Fv3), one(0xc7, thai.Cons), one(0xce, thai.Cons), one(0xcf, thai.Non),
		one(0xd0, thai.Fv1), one(0xd1, thai.Av2), one(0xd2, thai.Fv1), one(0xd3, thai.Fv1), one(0xd4, thai.Av1), one(0xd5, thai.Av3), one(0xd6, thai.Av2), one(0xd7, thai.Av3), one(0xd8, thai.Bv1), one(0xd9, thai.Bv2), one(0xda, thai.Bd), one(0xdb, thai.Non), one(0xde, thai.Non), one(0xdf, thai.Non),
		one(0xe0, thai.Lv), one(0xe4, thai.Lv), one(0xe5, thai.Fv2), one(0xe6, thai.Non), one(0xe7, thai.Ad2), one(0xe8, thai.Tone), one(0xeb, thai.Tone), one(0xec, thai.Ad1), one(0xed, thai.Ad1), one(0xee, thai.Ad3), one(0xef, thai.Non),
		one(0xf0, thai.Non), one(0xf9, thai.Non), one(0xfb, thai.Non), one(0xfc, thai.Non), one(0xff, thai.Non),
	} {
		if class := thai.Of(x.first); class != x.class {
			t.Errorf("Of %#x is %d, not %d", x.first, class, x.class)
		}
	}
}

func TestOfEveryByte(t *testing.T) { // P7.2, W2
	for range 2 {
		for c := range 256 {
			if class := thai.Of(byte(c)); class != classOf(byte(c)) {
				t.Errorf("Of %#x is %d, not %d", c, class, classOf(byte(c)))
			}
		}
	}
}

func TestHowManyBytesAClassHas(t *testing.T) { // P7.2: counted by hand from the chapter
	want := [thai.Classes]int{thai.Ctrl: 65, thai.Non: 120, thai.Cons: 44, thai.Lv: 5, thai.Fv1: 3, thai.Fv2: 1, thai.Fv3: 2, thai.Bv1: 1, thai.Bv2: 1, thai.Bd: 1, thai.Tone: 4, thai.Ad1: 2, thai.Ad2: 1, thai.Ad3: 1, thai.Av1: 1, thai.Av2: 2, thai.Av3: 2}
	var got [thai.Classes]int
	for c := range 256 {
		class := thai.Of(byte(c))
		if class < 0 || class >= thai.Classes {
			t.Fatalf("Of %#x is %d, which is no class", c, class)
		}
		got[class]++
	}
	if got != want {
		t.Error(got)
	}
}
