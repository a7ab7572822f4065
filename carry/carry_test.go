package carry_test

import (
	"slices"
	"testing"

	"lontar/api"
	"lontar/carry"
	"lontar/utf"
)

// edges are bytes on both sides of the bounds that a byte of UTF-8 is held against.
var edges = []byte{0x00, 0x41, 0x7f, 0x80, 0x8f, 0x90, 0x9f, 0xa0, 0xbf, 0xc1, 0xc2, 0xdf, 0xe0, 0xe1, 0xed, 0xef, 0xf0, 0xf1, 0xf4, 0xf5, 0xff}

// words has f called for every row of at most n of those bytes.
func words(n int, from []byte, f func(b []byte)) {
	var add func(b []byte)
	add = func(b []byte) {
		f(b)
		if len(b) == n {
			return
		}
		for _, c := range from {
			add(append(slices.Clone(b), c))
		}
	}
	add(nil)
}

// good is a token of a scalar, bad one of an error.
func good(at, size, s int) api.Token          { return api.Token{At: at, Len: size, Out: []int{s}} }
func bad(at, size int, e api.Errno) api.Token { return api.Token{At: at, Len: size, Err: e} }
func same(a, b []api.Token) bool              { return slices.EqualFunc(a, b, sameToken) }
func held(t *testing.T, r *carry.Reader, n int) {
	t.Helper()
	check(t, r.Held() == n, "held", r.Held())
}

func sameToken(a, b api.Token) bool {
	return a.At == b.At && a.Len == b.Len && a.Err == b.Err && slices.Equal(a.Out, b.Out)
}

func check(t *testing.T, ok bool, what ...any) {
	t.Helper()
	if !ok {
		t.Fatal(what...)
	}
}

func tokens(t *testing.T, got []api.Token, want ...api.Token) {
	t.Helper()
	check(t, same(got, want), "tokens", got, "not", want)
}

// model does what P2.1 and P2.2 say, word for word.
type model struct {
	wait []byte
	at   int
}

func (m *model) put(c byte) []api.Token {
	m.wait = append(slices.Clone(m.wait), c)
	var ts []api.Token
	for len(m.wait) > 0 {
		if _, _, e := utf.One(m.wait); e == api.ErrShort {
			break
		}
		x := utf.All(m.wait)[0]
		m.wait = m.wait[x.Len:]
		x.At = m.at
		m.at += x.Len
		ts = append(ts, x)
	}
	return ts
}

func (m *model) end() []api.Token {
	n := len(m.wait)
	if n == 0 {
		return nil
	}
	m.wait = nil
	m.at += n
	return []api.Token{bad(m.at-n, n, api.ErrShort)}
}

func TestBytesOfAScalarWait(t *testing.T) { // P2.1
	r := &carry.Reader{}
	held(t, r, 0)
	tokens(t, r.Put(0xe0))
	held(t, r, 1)
	tokens(t, r.Put(0xb8))
	held(t, r, 2)
	tokens(t, r.Put(0x81), good(0, 3, 0xe01))
	held(t, r, 0)
	tokens(t, r.Put('A'), good(3, 1, 'A'))
	tokens(t, r.Put(0), good(4, 1, 0))
	tokens(t, r.Put(0xc3))
	tokens(t, r.Put(0xaa), good(5, 2, 0xea))
	tokens(t, r.Put(0xf0))
	tokens(t, r.Put(0x9f))
	tokens(t, r.Put(0x98))
	held(t, r, 3)
	tokens(t, r.Put(0x80), good(7, 4, 0x1f600))
	held(t, r, 0)
}

func TestPutOfWrongBytes(t *testing.T) { // P2.1
	for _, x := range []struct {
		b    string
		ts   []api.Token // what the last byte makes known
		held int
	}{
		{"\x80", []api.Token{bad(0, 1, api.ErrForm)}, 0},
		{"\xc1", []api.Token{bad(0, 1, api.ErrForm)}, 0},
		{"\xf5", []api.Token{bad(0, 1, api.ErrForm)}, 0},
		{"\xff", []api.Token{bad(0, 1, api.ErrForm)}, 0},
		{"\xe1\x80A", []api.Token{bad(0, 2, api.ErrForm), good(2, 1, 'A')}, 0},
		{"\xe1\x80\xe1", []api.Token{bad(0, 2, api.ErrForm)}, 1},
		{"\xe1\x80\xff", []api.Token{bad(0, 2, api.ErrForm), bad(2, 1, api.ErrForm)}, 0},
		{"\xe0\x9f", []api.Token{bad(0, 1, api.ErrForm), bad(1, 1, api.ErrForm)}, 0},
		{"\xed\xa0", []api.Token{bad(0, 1, api.ErrForm), bad(1, 1, api.ErrForm)}, 0},
		{"\xf0\x8f", []api.Token{bad(0, 1, api.ErrForm), bad(1, 1, api.ErrForm)}, 0},
		{"\xf4\x90", []api.Token{bad(0, 1, api.ErrForm), bad(1, 1, api.ErrForm)}, 0},
		{"\xc2\xc2", []api.Token{bad(0, 1, api.ErrForm)}, 1},
		{"\xf0\x9f\x98A", []api.Token{bad(0, 3, api.ErrForm), good(3, 1, 'A')}, 0},
		{"\xf0\x9f\x98\xf0", []api.Token{bad(0, 3, api.ErrForm)}, 1},
	} {
		r := &carry.Reader{}
		last := len(x.b) - 1
		tokens(t, r.Feed([]byte(x.b[:last])))
		got := r.Put(x.b[last])
		check(t, same(got, x.ts) && r.Held() == x.held, "of", []byte(x.b), "are", got, "and wait", r.Held())
	}
}

func TestPutIsAsItsWordsSay(t *testing.T) { // P2.1, P2.2
	follow := func(b []byte) {
		r, m := &carry.Reader{}, &model{}
		for k, c := range b {
			got, want := r.Put(c), m.put(c)
			check(t, same(got, want), "put of byte", k, "of", b, "is", got, "not", want)
			check(t, r.Held() == len(m.wait) && r.Held() <= 3, "behind byte", k, "of", b, "wait", r.Held())
		}
		got, want := r.End(), m.end()
		check(t, same(got, want) && r.Held() == 0, "end of", b, "is", got, "not", want)
	}
	words(4, edges, follow)
	words(7, []byte{0x41, 0x80, 0xe1, 0xf1}, follow)
	for c := range 256 {
		for d := range 256 {
			follow([]byte{byte(c), byte(d)})
			follow([]byte{byte(c), 0x90, byte(d), 0x80, 0x41})
			follow([]byte{byte(c), 0xa0, 0x80, byte(d), 0x80})
		}
	}
}

func TestPartsDoNotMatter(t *testing.T) { // P2.1, P2.2
	b := []byte("a\xe1\x80b\xf0\x9f\x98\xf0\x9f\x98\x80\xed\xa0\x80\xc3\xaa\xff\xe0\xb8\x81\xf0\x90\x80")
	want := utf.All(b)
	check(t, want[len(want)-1].Err == api.ErrShort, want)
	for i := range len(b) + 1 {
		for j := i; j <= len(b); j++ {
			r := &carry.Reader{}
			got := slices.Concat(r.Feed(b[:i]), r.Feed(b[i:j]), r.Feed(b[j:]), r.End())
			check(t, same(got, want), "parted at", i, j, got)
		}
	}
}

func TestFeedIsPutOfEach(t *testing.T) { // P2.1
	words(5, []byte{0x41, 0x80, 0xa0, 0xc2, 0xe0, 0xed, 0xf0, 0xff}, func(b []byte) {
		kept := slices.Clone(b)
		one, all := &carry.Reader{}, &carry.Reader{}
		one.Put(0xf1)
		all.Put(0xf1)
		var want []api.Token
		for _, c := range b {
			want = append(want, one.Put(c)...)
		}
		got := all.Feed(b)
		check(t, same(got, want) && one.Held() == all.Held(), "feed of", b, "is", got, "not", want)
		check(t, slices.Equal(b, kept), "feed changed", kept, "to", b)
	})
	r := &carry.Reader{}
	r.Put(0xe1)
	tokens(t, r.Feed(nil))
	tokens(t, r.Feed([]byte{}))
	held(t, r, 1)
}

func TestReaderReadsEveryScalar(t *testing.T) { // P2.1
	r := &carry.Reader{}
	at := 0
	for s := range 0x110000 {
		if !utf.Scalar(s) {
			continue
		}
		b := utf.Put(nil, s)
		last := len(b) - 1
		tokens(t, r.Feed(b[:last]))
		held(t, r, last)
		tokens(t, r.Put(b[last]), good(at, len(b), s))
		at += len(b)
	}
	held(t, r, 0)
	tokens(t, r.End())
}

func TestEndHasAllThatWaits(t *testing.T) { // P2.2
	for _, b := range []string{"\xc2", "\xdf", "\xe0", "\xe0\xb8", "\xed\x9f", "\xf0", "\xf0\x90", "\xf4\x8f\xbf"} {
		r := &carry.Reader{}
		tokens(t, r.Feed([]byte("A"+b)), good(0, 1, 'A'))
		held(t, r, len(b))
		tokens(t, r.End(), bad(1, len(b), api.ErrShort))
		held(t, r, 0)
		tokens(t, r.End())
	}
}

func TestEndOfNothing(t *testing.T) { // P2.2
	r := &carry.Reader{}
	tokens(t, r.End())
	held(t, r, 0)
	tokens(t, r.Feed([]byte("A\xff")), good(0, 1, 'A'), bad(1, 1, api.ErrForm))
	tokens(t, r.End())
	tokens(t, r.End())
	tokens(t, r.Put('B'), good(2, 1, 'B'))
}

func TestBytesBehindAnEndFollow(t *testing.T) { // P2.2
	r := &carry.Reader{}
	r.Feed([]byte("A\xe0\xb8"))
	tokens(t, r.End(), bad(1, 2, api.ErrShort))
	tokens(t, r.Put(0x81), bad(3, 1, api.ErrForm))
	tokens(t, r.Feed([]byte("\xe0\xb8\x81\xf0")), good(4, 3, 0xe01))
	held(t, r, 1)
	tokens(t, r.End(), bad(7, 1, api.ErrShort))
	tokens(t, r.Put('B'), good(8, 1, 'B'))
}

func TestReadersShareNothing(t *testing.T) { // P2.1, W2, W6
	b := []byte("x\xe0\xb8")
	r, other := &carry.Reader{}, &carry.Reader{}
	r.Feed(b)
	other.Put(0xf0)
	b[1], b[2] = 'y', 'y'
	twin := *r
	twin.End()
	twin.Feed([]byte("\xf0\x9f\x98"))
	held(t, r, 2)
	tokens(t, r.Put(0x81), good(1, 3, 0xe01))
	held(t, other, 1)
}

func TestTokensShareNothing(t *testing.T) { // P2.1, W6
	r := &carry.Reader{}
	ts := r.Feed([]byte("abc"))
	tokens(t, ts, good(0, 1, 'a'), good(1, 1, 'b'), good(2, 1, 'c'))
	ts[0].Out = append(ts[0].Out, 7)
	ts[1].Out[0] = 7
	check(t, ts[0].Out[0] == 'a' && ts[2].Out[0] == 'c', ts)
	tokens(t, r.Put('b'), good(3, 1, 'b'))
}
