package utf_test

import (
	"bytes"
	"math"
	"slices"
	"testing"
	"unicode/utf8"

	"lontar/api"
	"lontar/utf"
)

// edges are bytes on both sides of every bound that a byte of UTF-8 is held against.
var edges = []byte{0x00, 0x41, 0x7f, 0x80, 0x8f, 0x90, 0x9f, 0xa0, 0xbf, 0xc0, 0xc1, 0xc2, 0xdf, 0xe0, 0xe1, 0xec, 0xed, 0xee, 0xef, 0xf0, 0xf1, 0xf3, 0xf4, 0xf5, 0xff}

// wrong are numbers that are no scalars.
var wrong = []int{-1, -0x41, math.MinInt, 0xd800, 0xd801, 0xdbff, 0xdc00, 0xdfff, 0x110000, 0x200041, 1 << 32, 1<<32 + 0x41, math.MaxInt}

// bad is api.Bad as bytes.
const bad = "\xef\xbf\xbd"

// words has f called for every row of at most n edges.
func words(n int, f func(b []byte)) {
	var add func(b []byte)
	add = func(b []byte) {
		f(b)
		if len(b) == n {
			return
		}
		for _, c := range edges {
			add(append(slices.Clone(b), c))
		}
	}
	add(nil)
}

// beginnings are the proper prefixes of the bytes of all scalars.
func beginnings() map[string]bool {
	all := map[string]bool{"": true}
	for s := 0; s <= 0x10ffff; s++ {
		if 0xd800 <= s && s <= 0xdfff {
			continue
		}
		b := utf8.AppendRune(nil, rune(s))
		for n := 1; n < len(b); n++ {
			all[string(b[:n])] = true
		}
	}
	return all
}

// expect is what P1.2 says of b, word for word.
func expect(b []byte, begun map[string]bool) (int, int, api.Errno) {
	if r, n := utf8.DecodeRune(b); n > 1 || n == 1 && r != utf8.RuneError {
		return int(r), n, 0
	}
	if begun[string(b)] {
		return 0, len(b), api.ErrShort
	}
	n := min(len(b), utf8.UTFMax)
	for n > 1 && !begun[string(b[:n])] {
		n--
	}
	return 0, n, api.ErrForm
}

func TestScalarsAreThoseOfTheirBounds(t *testing.T) { // P1.1
	for s := -0x1000; s < 0x112000; s++ {
		is := s >= 0 && s <= 0x10ffff && (s < 0xd800 || s > 0xdfff)
		if utf.Scalar(s) != is {
			t.Fatalf("Scalar(%#x) is %v", s, !is)
		}
		size := 0
		if is {
			size = utf8.RuneLen(rune(s))
		}
		if utf.Size(s) != size {
			t.Fatalf("Size(%#x) is %d, not %d", s, utf.Size(s), size)
		}
	}
	for _, s := range wrong {
		if utf.Scalar(s) || utf.Size(s) != 0 {
			t.Errorf("%#x: %v %d", s, utf.Scalar(s), utf.Size(s))
		}
	}
}

func TestSizeChangesAtItsBounds(t *testing.T) { // P1.1
	for _, x := range []struct{ s, size int }{{0, 1}, {0x7f, 1}, {0x80, 2}, {0x7ff, 2}, {0x800, 3}, {0xd7ff, 3}, {0xe000, 3}, {0xffff, 3}, {0x10000, 4}, {0x10ffff, 4}} {
		if n := utf.Size(x.s); n != x.size {
			t.Errorf("Size(%#x) is %d, not %d", x.s, n, x.size)
		}
	}
}

func TestPutHasTheBytesOfEveryScalar(t *testing.T) { // P1.1
	for s := 0; s <= 0x10ffff; s++ {
		want := bad
		if s < 0xd800 || s > 0xdfff {
			want = string(rune(s))
		}
		if b := utf.Put(nil, s); string(b) != want {
			t.Fatalf("Put(nil, %#x) is %x, not %x", s, b, want)
		}
	}
	for _, s := range wrong {
		if b := utf.Put([]byte("x"), s); string(b) != "x"+bad {
			t.Errorf("Put(x, %#x) is %x", s, b)
		}
	}
	if b := utf.Put([]byte("\xe1\x80"), 0x20ac); string(b) != "\xe1\x80\xe2\x82\xac" {
		t.Errorf("behind others: %x", b)
	}
}

func TestPutLeavesItsArgument(t *testing.T) { // P1.1, W6
	room := []byte("abcdefgh")
	one := utf.Put(room[:2], 0x10000)
	two := utf.Put(room[:2], 0xe01)
	if string(room) != "abcdefgh" {
		t.Errorf("the room behind the argument became %x", room)
	}
	room[0] = 'z'
	if string(one) != "ab\xf0\x90\x80\x80" || string(two) != "ab\xe0\xb8\x81" {
		t.Errorf("results became %x and %x", one, two)
	}
}

func TestBytesIsPutOfEach(t *testing.T) { // P1.1
	if b := utf.Bytes(nil); len(b) != 0 {
		t.Errorf("of nil: %x", b)
	}
	if b := utf.Bytes([]int{}); len(b) != 0 {
		t.Errorf("of none: %x", b)
	}
	ss := append([]int{0, 0x41, 0x7f, 0x80, 0x7ff, 0x800, 0xfffd, 0xffff, 0x10000, 0x10ffff}, wrong...)
	kept := slices.Clone(ss)
	var want []byte
	for _, s := range ss {
		want = utf.Put(want, s)
	}
	if b := utf.Bytes(ss); !bytes.Equal(b, want) {
		t.Errorf("%x, not %x", b, want)
	}
	if !slices.Equal(ss, kept) {
		t.Error("the argument changed")
	}
	if b := utf.Bytes([]int{0x54, 0xea, -1, 0x1ebf, 0x1f600}); string(b) != "T\xc3\xaa\xef\xbf\xbd\xe1\xba\xbf\xf0\x9f\x98\x80" {
		t.Errorf("%x", b)
	}
}

func TestOneByName(t *testing.T) { // P1.2
	for _, x := range []struct {
		b       string
		s, size int
		err     api.Errno
	}{
		{"", 0, 0, api.ErrShort},
		{"\x00", 0, 1, 0},
		{"Ab", 0x41, 1, 0},
		{"\x7f\x80", 0x7f, 1, 0},
		{"\xc2\x80", 0x80, 2, 0},
		{"\xdf\xbf\xbf", 0x7ff, 2, 0},
		{"\xe0\xa0\x80", 0x800, 3, 0},
		{"\xed\x9f\xbf", 0xd7ff, 3, 0},
		{"\xee\x80\x80", 0xe000, 3, 0},
		{"\xef\xbf\xbd", 0xfffd, 3, 0},
		{"\xf0\x90\x80\x80", 0x10000, 4, 0},
		{"\xf4\x8f\xbf\xbfA", 0x10ffff, 4, 0},
		{"\xc2", 0, 1, api.ErrShort},
		{"\xe1", 0, 1, api.ErrShort},
		{"\xe1\x80", 0, 2, api.ErrShort},
		{"\xf1", 0, 1, api.ErrShort},
		{"\xf1\x80", 0, 2, api.ErrShort},
		{"\xf1\x80\x80", 0, 3, api.ErrShort},
		{"\x80", 0, 1, api.ErrForm},
		{"\xbf\xbf", 0, 1, api.ErrForm},
		{"\xc0", 0, 1, api.ErrForm},
		{"\xc1\xbf", 0, 1, api.ErrForm},
		{"\xc2\xc2", 0, 1, api.ErrForm},
		{"\xe0\x9f\xbf", 0, 1, api.ErrForm},
		{"\xe1\x80A", 0, 2, api.ErrForm},
		{"\xe1\x80\xe1\x80", 0, 2, api.ErrForm},
		{"\xed\xa0", 0, 1, api.ErrForm},
		{"\xf0\x8f\xbf\xbf", 0, 1, api.ErrForm},
		{"\xf0\x90\x80A", 0, 3, api.ErrForm},
		{"\xf4\x8fA", 0, 2, api.ErrForm},
		{"\xf4\x90\x80\x80", 0, 1, api.ErrForm},
		{"\xf5", 0, 1, api.ErrForm},
		{"\xff\xff\xff\xff", 0, 1, api.ErrForm},
	} {
		if s, n, err := utf.One([]byte(x.b)); s != x.s || n != x.size || err != x.err {
			t.Errorf("One(%x) is %#x, %d, %d", x.b, s, n, err)
		}
	}
	if s, n, err := utf.One(nil); s != 0 || n != 0 || err != api.ErrShort {
		t.Errorf("One(nil) is %#x, %d, %d", s, n, err)
	}
}

func TestOneReadsEveryScalar(t *testing.T) { // P1.2
	for s := 0; s <= 0x10ffff; s++ {
		if 0xd800 <= s && s <= 0xdfff {
			continue
		}
		b := append([]byte(string(rune(s))), 0x80)
		size := len(b) - 1
		if got, n, err := utf.One(b); got != s || n != size || err != 0 {
			t.Fatalf("One(%x) is %#x, %d, %d", b, got, n, err)
		}
		for k := range size {
			if got, n, err := utf.One(b[:k]); got != 0 || n != k || err != api.ErrShort {
				t.Fatalf("One(%x) is %#x, %d, %d", b[:k], got, n, err)
			}
		}
	}
}

func TestOneOfAnyBytes(t *testing.T) { // P1.2
	begun := beginnings()
	check := func(b []byte) {
		kept := string(b)
		got, n, err := utf.One(b)
		if s, size, e := expect(b, begun); got != s || n != size || err != e {
			t.Fatalf("One(%x) is %#x, %d, %d, not %#x, %d, %d", b, got, n, err, s, size, e)
		}
		if string(b) != kept {
			t.Fatalf("One changed %x to %x", kept, b)
		}
	}
	words(4, check)
	for c := range 256 {
		for d := range 256 {
			check([]byte{byte(c), byte(d)})
			check([]byte{byte(c), byte(d), 0x80})
			check([]byte{byte(c), 0x8f, byte(d), 0x80})
			check([]byte{byte(c), 0x90, byte(d), 0x80})
			check([]byte{byte(c), 0x90, 0x80, byte(d)})
			check([]byte{byte(c), 0xa0, byte(d), 0x80, 0x80})
		}
	}
}

func TestAllByName(t *testing.T) { // P1.3
	same := func(a, b api.Token) bool {
		return a.At == b.At && a.Len == b.Len && a.Err == b.Err && slices.Equal(a.Out, b.Out)
	}
	for _, x := range []struct {
		b  string
		ts []api.Token
	}{
		{"", nil},
		{"\x00", []api.Token{{At: 0, Len: 1, Out: []int{0}}}},
		{"\xe1\x80A", []api.Token{{At: 0, Len: 2, Err: api.ErrForm}, {At: 2, Len: 1, Out: []int{0x41}}}},
		{"a\xc3\xaa\xe0\xb8", []api.Token{{At: 0, Len: 1, Out: []int{0x61}}, {At: 1, Len: 2, Out: []int{0xea}}, {At: 3, Len: 2, Err: api.ErrShort}}},
		{"\xed\xa0\x80", []api.Token{{At: 0, Len: 1, Err: api.ErrForm}, {At: 1, Len: 1, Err: api.ErrForm}, {At: 2, Len: 1, Err: api.ErrForm}}},
		{"\xf0\x9f\x98\xf0\x9f\x98\x80\xf0\x9f\x98", []api.Token{{At: 0, Len: 3, Err: api.ErrForm}, {At: 3, Len: 4, Out: []int{0x1f600}}, {At: 7, Len: 3, Err: api.ErrShort}}},
	} {
		if ts := utf.All([]byte(x.b)); !slices.EqualFunc(ts, x.ts, same) {
			t.Errorf("All(%x) is %v", x.b, ts)
		}
	}
	if ts := utf.All(nil); len(ts) != 0 {
		t.Errorf("All(nil) is %v", ts)
	}
}

func TestAllIsOneOfEachRest(t *testing.T) { // P1.3
	words(4, func(b []byte) {
		kept, at := string(b), 0
		for _, x := range utf.All(b) {
			s, n, err := utf.One(b[at:])
			var out []int
			if err == 0 {
				out = []int{s}
			}
			if x.At != at || x.Len != n || x.Err != err || !slices.Equal(x.Out, out) {
				t.Fatalf("All(%x) has %v at %d", b, x, at)
			}
			at += n
		}
		if at != len(b) || string(b) != kept {
			t.Fatalf("All(%x) used %d bytes", kept, at)
		}
	})
}

func TestTokensShareNothing(t *testing.T) { // P1.3, W6
	ts := utf.All([]byte("abc"))
	if len(ts) != 3 {
		t.Fatal(ts)
	}
	ts[0].Out = append(ts[0].Out, 7)
	ts[1].Out[0] = 7
	if ts[0].Out[0] != 'a' || ts[2].Out[0] != 'c' || utf.All([]byte("abc"))[1].Out[0] != 'b' {
		t.Error(ts)
	}
}

func TestLongInputIsReadBack(t *testing.T) { // P1.1, P1.3
	var ss []int
	for s := 0; s <= 0x10ffff; s++ {
		if utf.Scalar(s) {
			ss = append(ss, s)
		}
	}
	b := utf.Bytes(ss)
	ts := utf.All(b)
	if len(ts) != len(ss) {
		t.Fatalf("%d tokens of %d scalars", len(ts), len(ss))
	}
	at := 0
	for k, x := range ts {
		if x.At != at || x.Err != 0 || len(x.Out) != 1 || x.Out[0] != ss[k] {
			t.Fatalf("%v at %d", x, at)
		}
		at += x.Len
	}
	if at != len(b) {
		t.Errorf("%d of %d bytes", at, len(b))
	}
}
