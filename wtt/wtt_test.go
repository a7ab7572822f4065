package wtt_test

import (
	"bytes"
	"math"
	"strings"
	"testing"

	"lontar/api"
	"lontar/thai"
	"lontar/wtt"
)

// chapter is the table as P8.1 has it.
const chapter = `
Ctrl XAAAAAARRRRRRRRRR
Non  XAAASSARRRRRRRRRR
Cons XAAAASACCCCCCCCCC
Lv   XSASSSSRRRRRRRRRR
Fv1  XSASASARRRRRRRRRR
Fv2  XAAAASARRRRRRRRRR
Fv3  XAAASASRRRRRRRRRR
Bv1  XAAAASARRRCCRRRRR
Bv2  XAAASSARRRCRRRRRR
Bd   XAAASSARRRRRRRRRR
Tone XAAAAAARRRRRRRRRR
Ad1  XAAASSARRRRRRRRRR
Ad2  XAAASSARRRRRRRRRR
Ad3  XAAASSARRRRRRRRRR
Av1  XAAASSARRRCCRRRRR
Av2  XAAASSARRRCRRRRRR
Av3  XAAASSARRRCRCRRRR
`

// classes are those of layer 7 in their order, and a byte of each.
func classes() []struct {
	name  string
	class thai.Class
	c     byte
} {
	return []struct {
		name  string
		class thai.Class
		c     byte
	}{
		{"Ctrl", thai.Ctrl, 0x0a}, {"Non", thai.Non, 0x41}, {"Cons", thai.Cons, 0xa1}, {"Lv", thai.Lv, 0xe0}, {"Fv1", thai.Fv1, 0xd2}, {"Fv2", thai.Fv2, 0xe5}, {"Fv3", thai.Fv3, 0xc4}, {"Bv1", thai.Bv1, 0xd8}, {"Bv2", thai.Bv2, 0xd9}, {"Bd", thai.Bd, 0xda}, {"Tone", thai.Tone, 0xe8}, {"Ad1", thai.Ad1, 0xec}, {"Ad2", thai.Ad2, 0xe7}, {"Ad3", thai.Ad3, 0xee}, {"Av1", thai.Av1, 0xd4}, {"Av2", thai.Av2, 0xd1}, {"Av3", thai.Av3, 0xd5},
	}
}

// levels are the three that have names, and numbers beside and beyond them.
func levels() []api.Level {
	return []api.Level{math.MinInt, math.MinInt32, -1, api.Pass, api.Basic, api.Tight, 3, 7, 256, 1 << 32, math.MaxInt}
}

// kinds are the rows of the chapter, by the names of the classes.
func kinds(t *testing.T) map[string]string {
	t.Helper()
	rows := map[string]string{}
	for _, line := range strings.Split(strings.TrimSpace(chapter), "\n") {
		f := strings.Fields(line)
		if len(f) != 2 || len(f[1]) != 17 {
			t.Fatal(line)
		}
		rows[f[0]] = f[1]
	}
	if len(rows) != 17 {
		t.Fatal(len(rows))
	}
	return rows
}

// allowed is what P8.2 says of a kind at a level.
func allowed(kind byte, l api.Level) bool {
	return kind != 'R' && kind != 'S' || kind == 'R' && l <= 0 || kind == 'S' && l <= 1
}

// pairs are the kinds of every two bytes, by the chapter's table alone.
func pairs(t *testing.T) *[256][256]byte {
	t.Helper()
	rows := kinds(t)
	names := map[thai.Class]string{}
	for _, x := range classes() {
		names[x.class] = x.name
	}
	var all [256][256]byte
	for a := range 256 {
		for b := range 256 {
			all[a][b] = rows[names[thai.Of(byte(a))]][thai.Of(byte(b))]
		}
	}
	return &all
}

// firstWrong is what P8.2 says of bytes, with the kinds of every two.
func firstWrong(all *[256][256]byte, b []byte, l api.Level) int {
	for k := range b {
		if k > 0 && !allowed(all[b[k-1]][b[k]], l) {
			return k
		}
	}
	return -1
}

func TestKindOfEveryTwoClasses(t *testing.T) { // P8.1, W2
	rows := kinds(t)
	for range 2 {
		for _, a := range classes() {
			for k, b := range classes() {
				if got, want := wtt.Kind(a.class, b.class), rows[a.name][k]; got != want {
					t.Errorf("%s behind %s is %q, not %q", b.name, a.name, got, want)
				}
			}
		}
	}
}

func TestKindByName(t *testing.T) { // P8.1: read off the chapter a second time, kind by kind
	want := [thai.Classes][thai.Classes]byte{}
	put := func(kind byte, a thai.Class, bs ...thai.Class) {
		for _, b := range bs {
			want[a][b] = kind
		}
	}
	for a := range thai.Classes {
		for b := thai.Bv1; b < thai.Classes; b++ {
			put('R', a, b)
		}
		put('X', a, thai.Ctrl)
		put('A', a, thai.Non, thai.Cons, thai.Lv, thai.Fv1, thai.Fv2, thai.Fv3)
	}
	put('S', thai.Lv, thai.Non, thai.Lv, thai.Fv1, thai.Fv2, thai.Fv3)
	put('S', thai.Fv1, thai.Non, thai.Lv, thai.Fv2)
	put('S', thai.Fv3, thai.Fv1, thai.Fv3)
	for _, a := range []thai.Class{thai.Cons, thai.Fv2, thai.Bv1} {
		put('S', a, thai.Fv2)
	}
	for _, a := range []thai.Class{thai.Non, thai.Bv2, thai.Bd, thai.Ad1, thai.Ad2, thai.Ad3, thai.Av1, thai.Av2, thai.Av3} {
		put('S', a, thai.Fv1, thai.Fv2)
	}
	put('C', thai.Cons, thai.Bv1, thai.Bv2, thai.Bd, thai.Tone, thai.Ad1, thai.Ad2, thai.Ad3, thai.Av1, thai.Av2, thai.Av3)
	for _, a := range []thai.Class{thai.Bv1, thai.Av1} {
		put('C', a, thai.Tone, thai.Ad1)
	}
	put('C', thai.Bv2, thai.Tone)
	put('C', thai.Av2, thai.Tone)
	put('C', thai.Av3, thai.Tone, thai.Ad2)
	for a := range thai.Classes {
		for b := range thai.Classes {
			if got := wtt.Kind(a, b); got != want[a][b] {
				t.Errorf("Kind of %d and %d is %q, not %q", a, b, got, want[a][b])
			}
		}
	}
}

func TestKindOfWhatIsNoClass(t *testing.T) { // P8.1, W1
	none := []thai.Class{-1, -2, -16, -17, -256, thai.Classes, thai.Classes + 1, 31, 32, 34, 255, 256, 272, 1 << 16, 1 << 32, 1<<32 + 2, math.MaxInt32, math.MinInt32, math.MaxInt - 1, math.MaxInt, math.MinInt, math.MinInt + 2}
	for _, x := range none {
		for y := range thai.Classes {
			if got := wtt.Kind(x, y); got != 'R' {
				t.Errorf("Kind of %d and %d is %q", x, y, got)
			}
			if got := wtt.Kind(y, x); got != 'R' {
				t.Errorf("Kind of %d and %d is %q", y, x, got)
			}
		}
		for _, y := range none {
			if got := wtt.Kind(x, y); got != 'R' {
				t.Errorf("Kind of %d and %d is %q", x, y, got)
			}
		}
	}
}

func TestMayByName(t *testing.T) { // P8.2
	for k, x := range []struct {
		a, b               byte
		pass, basic, tight bool
	}{
		{0xe8, 0xe8, true, false, false}, // R: a tone behind a tone
		{0x41, 0xe8, true, false, false}, // R: a tone behind what is not Thai
		{0x0a, 0xd4, true, false, false}, // R: a vowel behind a control byte
		{0xd4, 0xe7, true, false, false}, // R
		{0xe0, 0xe0, true, true, false},  // S: a leading vowel behind one
		{0xa1, 0xe5, true, true, false},  // S
		{0x20, 0xd2, true, true, false},  // S
		{0xa1, 0xe8, true, true, true},   // C: a tone behind a consonant
		{0xd5, 0xe7, true, true, true},   // C
		{0xe0, 0xa1, true, true, true},   // A: a consonant behind a leading vowel
		{0x41, 0x42, true, true, true},   // A
		{0xe8, 0x0a, true, true, true},   // X: a control byte behind a tone
		{0x00, 0x00, true, true, true},   // X
	} {
		for l, want := range map[api.Level]bool{math.MinInt: true, -1: true, api.Pass: x.pass, api.Basic: x.basic, api.Tight: x.tight, 3: x.tight, math.MaxInt: x.tight} {
			if got := wtt.May(x.a, x.b, l); got != want {
				t.Errorf("%d: May %#x, %#x at %d is %t", k, x.a, x.b, l, got)
			}
		}
	}
}

func TestMayOfEveryTwoBytes(t *testing.T) { // P8.2
	all := pairs(t)
	for _, l := range levels() {
		for a := range 256 {
			for b := range 256 {
				if got, want := wtt.May(byte(a), byte(b), l), allowed(all[a][b], l); got != want {
					t.Fatalf("May %#x, %#x at %d is %t", a, b, l, got)
				}
			}
		}
	}
}

// checked holds Check, and a Checker after each byte, against what is expected of all the bytes.
func checked(t *testing.T, b []byte, l api.Level, want int) {
	t.Helper()
	given := bytes.Clone(b)
	for range 2 {
		if got := wtt.Check(b, l); got != want {
			t.Fatalf("Check of % x at %d is %d, not %d", b, l, got, want)
		}
	}
	if !bytes.Equal(b, given) {
		t.Fatalf("Check made % x of % x", b, given)
	}
	c := wtt.Of(l)
	if bad := c.Bad(); bad != -1 {
		t.Fatalf("Bad of no bytes at %d is %d", l, bad)
	}
	for k, x := range b {
		fine := want < 0 || k < want
		if got := c.Put(x); got != fine {
			t.Fatalf("Put of byte %d of % x at %d is %t", k, b, l, got)
		}
		bad := -1
		if !fine {
			bad = want
		}
		for range 2 {
			if got := c.Bad(); got != bad {
				t.Fatalf("Bad after byte %d of % x at %d is %d, not %d", k, b, l, got, bad)
			}
		}
	}
}

func TestCheckByName(t *testing.T) { // P8.2, P8.3
	for _, x := range []struct {
		b                  []byte
		pass, basic, tight int
	}{
		{nil, -1, -1, -1},
		{[]byte{}, -1, -1, -1},
		{[]byte{0xe8}, -1, -1, -1}, // nothing is ahead of the first byte
		{[]byte{0x00}, -1, -1, -1},
		{[]byte{0xff}, -1, -1, -1},
		{[]byte{0xa1, 0xe8}, -1, -1, -1},
		{[]byte{0xe8, 0xe8}, -1, 1, 1},
		{[]byte{0xe8, 0xe8, 0xe8}, -1, 1, 1}, // the first of several
		{[]byte{0xa1, 0xe8, 0xe8}, -1, 2, 2},
		{[]byte{0xe0, 0xe0}, -1, -1, 1},
		{[]byte{0xe0, 0xe0, 0xe0, 0xe8}, -1, 3, 1},
		{[]byte{0xa1, 0xd4, 0xe8, 0xe0, 0xe0, 0xe8}, -1, 5, 4},
		{[]byte{0xe8, 0xe8, 0xa1, 0xe8}, -1, 1, 1},
		{[]byte{0xb7, 0xd5, 0xe8, 0xe0, 0xb4, 0xd4, 0xb9}, -1, -1, -1},
		{[]byte("plain text\n"), -1, -1, -1},
		{append(bytes.Repeat([]byte{0xa1}, 999), 0xe5), -1, -1, 999}, // the last byte alone
	} {
		for l, want := range map[api.Level]int{math.MinInt: x.pass, -1: x.pass, api.Pass: x.pass, api.Basic: x.basic, api.Tight: x.tight, 3: x.tight, math.MaxInt: x.tight} {
			checked(t, x.b, l, want)
		}
	}
}

func TestCheckOfShortRows(t *testing.T) { // P8.2, P8.3
	all := pairs(t)
	for _, l := range []api.Level{-1, api.Pass, api.Basic, api.Tight, 3} {
		for n := range 4 {
			row := make([]byte, n)
			var fill func(int)
			fill = func(at int) {
				if at == n {
					checked(t, row, l, firstWrong(all, row, l))
					return
				}
				for _, x := range classes() {
					row[at] = x.c
					fill(at + 1)
				}
			}
			fill(0)
		}
	}
}

func TestCheckOfLongRows(t *testing.T) { // P8.2, P8.3, T5: bytes that may follow one another, and one place that is wrong or none
	all := pairs(t)
	for _, l := range []api.Level{api.Pass, api.Basic, api.Tight} {
		for step := 1; step < 256; step += 6 {
			row := []byte{byte(step)}
			for k := 0; len(row) < 300 && k < 100000; k++ {
				if x := byte(k * step); allowed(all[row[len(row)-1]][x], l) {
					row = append(row, x)
				}
			}
			if len(row) < 300 {
				t.Fatal(step, len(row))
			}
			checked(t, row, l, -1)
			for _, at := range []int{1, 2, 127, 255, 256, 257, 299} {
				for _, x := range classes() {
					other := bytes.Clone(row)
					other[at] = x.c
					checked(t, other, l, firstWrong(all, other, l))
				}
			}
		}
	}
}

func TestCheckersAreApart(t *testing.T) { // P8.3, W2
	row := []byte{0xa1, 0xd4, 0xe8, 0xe0, 0xe0, 0xe8, 0xa1}
	want := map[api.Level]int{api.Pass: -1, api.Basic: 5, api.Tight: 4}
	cs := map[api.Level][2]*wtt.Checker{}
	for l := range want {
		cs[l] = [2]*wtt.Checker{wtt.Of(l), wtt.Of(l)}
	}
	for k, x := range row {
		for l, bad := range want {
			fine := bad < 0 || k < bad
			if got := cs[l][0].Put(x); got != fine {
				t.Errorf("Put of byte %d at %d is %t", k, l, got)
			}
			if got := cs[l][1].Put(0xa1); !got || cs[l][1].Bad() != -1 {
				t.Errorf("%d, %d: consonants alone are wrong", k, l)
			}
		}
	}
	for l, bad := range want {
		if got := cs[l][0].Bad(); got != bad {
			t.Errorf("Bad at %d is %d, not %d", l, got, bad)
		}
	}
}

func TestCheckerRemembersTheFirst(t *testing.T) { // P8.3: what comes later mends nothing and is not told
	c := wtt.Of(api.Tight)
	for _, x := range []byte{0x41, 0xe8} {
		c.Put(x)
	}
	for range 2 {
		for x := range 256 {
			if c.Put(byte(x)) {
				t.Errorf("%#x behind what is wrong is right", x)
			}
			if bad := c.Bad(); bad != 1 {
				t.Fatalf("Bad is %d after %#x", bad, x)
			}
		}
	}
}

func TestCheckerOfEveryTwoBytes(t *testing.T) { // P8.3
	all := pairs(t)
	for _, l := range levels() {
		for a := range 256 {
			for b := range 256 {
				c := wtt.Of(l)
				if !c.Put(byte(a)) || c.Bad() != -1 {
					t.Fatalf("%#x alone is wrong at %d", a, l)
				}
				fine := allowed(all[a][b], l)
				bad := 1
				if fine {
					bad = -1
				}
				if got := c.Put(byte(b)); got != fine || c.Bad() != bad {
					t.Fatalf("%#x, %#x at %d: %t, %d", a, b, l, got, c.Bad())
				}
			}
		}
	}
}

func TestACopyOfACheckerGoesItsOwnWay(t *testing.T) { // P8.3, W2
	c := wtt.Of(api.Tight)
	c.Put(0xa1)
	d := *c
	if d.Put(0xe5) || d.Bad() != 1 {
		t.Error("the copy", d.Bad())
	}
	if c.Bad() != -1 || !c.Put(0xe8) || c.Bad() != -1 {
		t.Error("the first one", c.Bad())
	}
}

func TestCheckerThatWasNotMadeByOf(t *testing.T) { // W1: the chapter says nothing of it; it must not panic
	var c wtt.Checker
	if c.Bad() != -1 {
		t.Error(c.Bad())
	}
	for x := range 256 {
		if !c.Put(byte(x)) || c.Bad() != -1 {
			t.Fatalf("%#x: %d", x, c.Bad())
		}
	}
}
