package script_test

import (
	"math"
	"slices"
	"strings"
	"testing"

	"lontar/api"
	"lontar/codec"
	"lontar/script"
	"lontar/stream"
)

// feed, flush and reset are acts.
func feed(in string, room int) script.Act {
	return script.Act{Kind: script.Feed, Room: room, Text: []byte(in)}
}

func flush(room int) script.Act { return script.Act{Kind: script.Flush, Room: room} }

func reset(room int) script.Act { return script.Act{Kind: script.Reset, Room: room} }

// read and write are what is wrong on a side; fine is that nothing is.
func read(at int, e api.Errno) stream.Fault { return stream.Fault{Side: stream.Read, At: at, Err: e} }

func write(at int) stream.Fault { return stream.Fault{Side: stream.Write, At: at, Err: api.ErrMap} }

func fine() stream.Fault { return stream.Fault{} }

// told are what acts told.
func told(l ...api.Errno) []api.Errno { return l }

// open is a stream that there must be.
func open(t *testing.T, from, to string, p api.Policy) *stream.Stream {
	t.Helper()
	s, e := stream.Open(from, to, p)
	if s == nil || e != 0 {
		t.Fatalf("%q to %q, %d: %v", from, to, p, e)
	}
	return s
}

// names are the codecs in their order, as P19.1 has them.
func names() []string {
	return []string{"utf-8", "ascii", "viscii", "tcvn3", "vni", "tis-620", "tscii", "iscii"}
}

// same tells whether acts are the same ones.
func same(a, b []script.Act) bool {
	return slices.EqualFunc(a, b, func(x, y script.Act) bool {
		return x.Kind == y.Kind && x.Room == y.Room && string(x.Text) == string(y.Text)
	})
}

// acts holds the acts of bytes, and that the bytes stay as they are.
func acts(t *testing.T, in string, want ...script.Act) {
	t.Helper()
	b := []byte(in)
	if got := script.Acts(b); !same(got, want) || string(b) != in {
		t.Fatalf("%.60q: %v, not %v; the bytes are %.60q", in, got, want, b)
	}
}

// reports holds what a report says.
func reports(t *testing.T, r script.Report, out string, used int, f stream.Fault, l ...api.Errno) {
	t.Helper()
	if string(r.Out) != out || r.Used != used || r.Fault != f || !slices.Equal(r.Told, l) {
		t.Fatalf("%q, %d, %v, %v, not %q, %d, %v, %v", r.Out, r.Used, r.Fault, r.Told, out, used, f, l)
	}
}

// equal tells whether two reports say the same.
func equal(a, b script.Report) bool {
	return string(a.Out) == string(b.Out) && a.Used == b.Used && a.Fault == b.Fault && slices.Equal(a.Told, b.Told)
}

// runs is the report of bytes that there must be.
func runs(t *testing.T, in string) script.Report {
	t.Helper()
	b := []byte(in)
	r, ok := script.Bytes(b)
	if !ok || string(b) != in {
		t.Fatalf("%.60q: %v; the bytes are %.60q", in, ok, b)
	}
	return r
}

// model has the acts of bytes by the words of P22.1, by places in them.
func model(b string) []script.Act {
	var l []script.Act
	at := 0
	next := func() int {
		at++
		return int(b[at-1])
	}
	for at < len(b) {
		c := next()
		a := script.Act{Room: 12 + c>>3}
		switch c & 7 {
		case 6:
			a.Kind = script.Flush
		case 7:
			a.Kind = script.Reset
		default:
			if at < len(b) {
				for n := next() & 31; n > 0 && at < len(b); n-- {
					a.Text = append(a.Text, byte(next()))
				}
			}
		}
		l = append(l, a)
	}
	return l
}

// made are bytes that acts are made of, if their rooms and lengths are such as bytes can tell.
func made(l []script.Act) string {
	var b []byte
	for _, a := range l {
		c := byte(a.Room-12) * 8
		switch a.Kind {
		case script.Flush:
			b = append(b, c+6)
		case script.Reset:
			b = append(b, c+7)
		default:
			b = append(b, c, byte(len(a.Text)))
			b = append(b, a.Text...)
		}
	}
	return string(b)
}

// answer is what a stream answers to one act.
type answer struct {
	out  string
	used int
	told api.Errno
}

// expected is the report by the words of P22.2, of all answers, of which those ahead of the last Reset count no more.
func expected(s *stream.Stream, l []script.Act) script.Report {
	var answers []answer
	from := 0
	for k, a := range l {
		var x answer
		switch {
		case a.Kind == script.Feed:
			out, n, e := s.Feed(a.Text, a.Room)
			x = answer{string(out), n, e}
		case a.Kind == script.Flush:
			out, e := s.Flush(a.Room)
			x = answer{string(out), 0, e}
		case a.Kind == script.Reset:
			s.Reset()
			from = k
		default:
			x.told = api.ErrArgument
		}
		answers = append(answers, x)
	}
	r := script.Report{Fault: s.Fault()}
	for k, x := range answers {
		r.Told = append(r.Told, x.told)
		if k >= from {
			r.Out = append(r.Out, x.out...)
			r.Used += x.used
		}
	}
	return r
}

// rows goes through all rows of so many of some things.
func rows[T any](some []T, n int, f func(row []T)) {
	if n == 0 {
		f(nil)
		return
	}
	for _, x := range some {
		rows(some, n-1, func(rest []T) { f(append([]T{x}, rest...)) })
	}
}

func TestKinds(t *testing.T) {
	if script.Feed != 0 || script.Flush != 1 || script.Reset != 2 {
		t.Fatal(script.Feed, script.Flush, script.Reset)
	}
}

func TestPair(t *testing.T) { // P22.1
	for _, x := range []struct {
		c        byte
		from, to string
		p        api.Policy
	}{
		{0, "utf-8", "utf-8", api.Strict},
		{1, "ascii", "utf-8", api.Strict},
		{7, "iscii", "utf-8", api.Strict},
		{8, "utf-8", "ascii", api.Strict},
		{9, "ascii", "ascii", api.Strict},
		{0x22, "viscii", "vni", api.Strict},
		{63, "iscii", "iscii", api.Strict},
		{64, "utf-8", "utf-8", api.Replace},
		{64 + 5, "tis-620", "utf-8", api.Replace},
		{127, "iscii", "iscii", api.Replace},
		{128, "utf-8", "utf-8", api.Skip},
		{128 + 3*8 + 6, "tscii", "tcvn3", api.Skip},
		{191, "iscii", "iscii", api.Skip},
		{192, "utf-8", "utf-8", api.Strict},
		{200, "utf-8", "ascii", api.Strict},
		{255, "iscii", "iscii", api.Strict},
	} {
		if from, to, p := script.Pair(x.c); from != x.from || to != x.to || p != x.p {
			t.Errorf("%d: %q to %q, %d", x.c, from, to, p)
		}
	}
}

// TestPairs has all bytes, one after the other, by four times all policies with all codecs, the last ones being Strict again.
func TestPairs(t *testing.T) { // P22.1
	c := 0
	for _, p := range []api.Policy{api.Strict, api.Replace, api.Skip, api.Strict} {
		for _, to := range names() {
			for _, from := range names() {
				if x, y, z := script.Pair(byte(c)); x != from || y != to || z != p {
					t.Errorf("%d: %q to %q, %d", c, x, y, z)
				}
				c++
			}
		}
	}
	if c != 256 || !slices.Equal(names(), codec.Names()) {
		t.Fatal(c, codec.Names())
	}
}

func TestActs(t *testing.T) { // P22.1
	acts(t, "")
	acts(t, "\x20\x02ab", feed("ab", 16))
	acts(t, "\x20\x02ab\x26", feed("ab", 16), flush(16))
	acts(t, "\x06\x0f\x00", flush(12), reset(13), feed("", 12))
	// A Feed at the end has no text, and one whose length is 0 has none, either.
	acts(t, "\x00", feed("", 12))
	acts(t, "\x00\x00", feed("", 12))
	acts(t, "\x00\x00\x00", feed("", 12), feed("", 12))
	acts(t, "\x00\x20\x27", feed("", 12), reset(16))
	acts(t, "\x00\xe0\x27", feed("", 12), reset(16))
	// There are fewer bytes than the length says.
	acts(t, "\x00\x01", feed("", 12))
	acts(t, "\x00\x03ab", feed("ab", 12))
	acts(t, "\x00\x1fab", feed("ab", 12))
	acts(t, "\x00\xffab", feed("ab", 12))
	acts(t, "\x00\x02ab", feed("ab", 12))
	acts(t, "\x00\x01ab\x01c", feed("a", 12), feed("c", 24))
	// What follows a Flush or a Reset is the next act.
	acts(t, "\x06\x02ab", flush(12), feed("b", 12))
	acts(t, "\x07\x02ab", reset(12), feed("b", 12))
	acts(t, "\xfe\xff\xf8\x01\xff\xff", flush(43), reset(43), feed("\xff", 43), reset(43))
	// Bytes of a text are no acts.
	acts(t, "\x24\x03\x06\x07\x00\x0e", feed("\x06\x07\x00", 16), flush(13))
}

// TestFirstBytes has each byte be the first one of an act.
func TestFirstBytes(t *testing.T) { // P22.1
	for c := range 256 {
		room := 12 + c/8
		switch in := string([]byte{byte(c)}); c % 8 {
		case 6:
			acts(t, in, flush(room))
			acts(t, in+in, flush(room), flush(room))
		case 7:
			acts(t, in, reset(room))
			acts(t, in+in, reset(room), reset(room))
		default:
			acts(t, in, feed("", room))
			acts(t, in+"\x02"+in+in+in, feed(in+in, room), feed("", room))
		}
	}
}

// TestLengths has each byte be a length, with as many bytes behind it, with fewer and with more.
func TestLengths(t *testing.T) { // P22.1
	for c := range 256 {
		for n := range 40 {
			some := strings.Repeat("\x06", n)
			in := "\xfd" + string([]byte{byte(c)}) + some
			want := []script.Act{feed(some[:min(n, c%32)], 43)}
			for range n - min(n, c%32) {
				want = append(want, flush(12))
			}
			acts(t, in, want...)
		}
	}
}

// TestModel has all short rows of chosen bytes, and long rows.
func TestModel(t *testing.T) { // P22.1
	some := []byte{0x00, 0x01, 0x02, 0x06, 0x07, 0x0d, 0x26, 0x85, 0xff}
	for n := range 6 {
		rows(some, n, func(row []byte) { acts(t, string(row), model(string(row))...) })
	}
	for step := range 100 {
		var b []byte
		for k := range 3000 {
			b = append(b, byte(k*k*7+k*(2*step+1)+k>>3))
		}
		acts(t, string(b), model(string(b))...)
	}
	long := strings.Repeat("\x06", 100000)
	if got := script.Acts([]byte(long)); len(got) != len(long) || !same(got, model(long)) {
		t.Fatal(len(got))
	}
}

// TestMade has acts be what their bytes are made of.
func TestMade(t *testing.T) { // P22.1
	some := []script.Act{feed("", 12), feed("\x06", 43), feed(strings.Repeat("a", 31), 16), flush(12), flush(43), reset(12), reset(20)}
	for n := range 5 {
		rows(some, n, func(row []script.Act) { acts(t, made(row), row...) })
	}
}

// TestTextsAreParted has texts be new memory: what is done to one shows in no other one, and not in the bytes.
func TestTextsAreParted(t *testing.T) { // P22.1, W6
	in := "\x20\x02ab\x20\x02cd\x20\x00\x20\x05efg"
	b := []byte(in)
	l := script.Acts(b)
	want := []script.Act{feed("ab", 16), feed("cd", 16), feed("", 16), feed("efg", 16)}
	clear(b)
	if !same(l, want) {
		t.Fatal(l)
	}
	copy(b, in)
	l = script.Acts(b)
	for k := range l {
		texts := append(l[k].Text, "xyzxyz"...)
		clear(texts)
		clear(l[k].Text)
		for j := range l {
			if j > k && string(l[j].Text) != string(want[j].Text) {
				t.Fatal(k, j, l[j])
			}
		}
	}
	if string(b) != in {
		t.Fatalf("the bytes are %q", b)
	}
	acts(t, in, want...)
}

func TestRunOfNothing(t *testing.T) { // P22.2
	s := open(t, "ascii", "ascii", api.Strict)
	reports(t, script.Run(s, nil), "", 0, fine())
	reports(t, script.Run(s, []script.Act{}), "", 0, fine())
	reports(t, script.Run(s, []script.Act{{}}), "", 0, fine(), api.ErrArgument)
	s.Feed([]byte("a\x80"), 16)
	reports(t, script.Run(s, nil), "", 0, read(1, api.ErrMap))
}

// sample is the report of acts on a new stream, by hand.
type sample struct {
	from, to string
	p        api.Policy
	acts     []script.Act
	out      string
	used     int
	f        stream.Fault
	told     []api.Errno
}

// samples are those of ordinary acts, of all kinds of errors, and of what follows them.
func samples() []sample {
	thai, wide := strings.Repeat("\xa1", 20), strings.Repeat("\u0e01", 20)
	return []sample{
		{"viscii", "vni", api.Strict, []script.Act{feed("Ti\xaa", 16), feed("ng", 16), flush(16)}, "Tie\xe1ng", 5, fine(), told(0, 0, 0)},
		// The end has what waits be written.
		{"vni", "utf-8", api.Strict, []script.Act{feed("e", 16)}, "", 1, fine(), told(0)},
		{"vni", "utf-8", api.Strict, []script.Act{feed("e", 16), flush(16)}, "e", 1, fine(), told(0, 0)},
		{"vni", "utf-8", api.Strict, []script.Act{feed("e", 16), feed("\xe1", 16), flush(16)}, "\u1ebf", 2, fine(), told(0, 0, 0)},
		// A room that is too little changes nothing.
		{"ascii", "ascii", api.Strict, []script.Act{feed("ab", 15), flush(15), feed("cd", 16), flush(0)}, "cd", 2, fine(), told(api.ErrArgument, api.ErrArgument, 0, api.ErrArgument)},
		{"ascii", "ascii", api.Strict, []script.Act{feed("ab", math.MinInt), feed("ab", math.MaxInt), flush(-1)}, "ab", 2, fine(), told(api.ErrArgument, 0, api.ErrArgument)},
		// What there is no room for is owed, and the bytes that weren't taken are lost to the acts.
		{"tis-620", "utf-8", api.Strict, []script.Act{feed(thai, 16)}, wide[:16], 6, fine(), told(api.ErrSpace)},
		{"tis-620", "utf-8", api.Strict, []script.Act{feed(thai, 18)}, wide[:18], 6, fine(), told(0)},
		{"tis-620", "utf-8", api.Strict, []script.Act{feed(thai, 16), feed("", 16)}, wide[:18], 6, fine(), told(api.ErrSpace, 0)},
		{"tis-620", "utf-8", api.Strict, []script.Act{feed(thai, 16), flush(16), flush(16)}, wide[:18], 6, fine(), told(api.ErrSpace, 0, api.ErrClosed)},
		{"tis-620", "utf-8", api.Strict, []script.Act{feed(thai, 16), feed(thai, 16), flush(16)}, wide[:33], 11, fine(), told(api.ErrSpace, api.ErrSpace, 0)},
		// What is wrong.
		{"ascii", "ascii", api.Strict, []script.Act{feed("a\x80b", 16), feed("c", 16), flush(16)}, "a", 2, read(1, api.ErrMap), told(api.ErrMap, api.ErrClosed, api.ErrClosed)},
		{"ascii", "ascii", api.Replace, []script.Act{feed("a\x80b", 16), feed("c", 16), flush(16)}, "a?bc", 4, fine(), told(0, 0, 0)},
		{"ascii", "ascii", api.Skip, []script.Act{feed("a\x80b", 16), feed("c", 16), flush(16)}, "abc", 4, fine(), told(0, 0, 0)},
		{"utf-8", "ascii", api.Strict, []script.Act{feed("ab\xe1", 16), feed("\xba\xbfc", 16)}, "ab", 5, write(2), told(0, api.ErrMap)},
		{"utf-8", "ascii", api.Strict, []script.Act{feed("ab\xe1", 16), flush(16)}, "ab", 3, read(2, api.ErrShort), told(0, api.ErrShort)},
		{"utf-8", "ascii", api.Strict, []script.Act{feed("ab\xe1b", 16), flush(16)}, "ab", 4, read(2, api.ErrForm), told(api.ErrForm, api.ErrClosed)},
		// After the end nothing is taken.
		{"ascii", "ascii", api.Strict, []script.Act{feed("a", 16), flush(16), feed("b", 16), flush(15), feed("c", 15)}, "a", 1, fine(), told(0, 0, api.ErrClosed, api.ErrClosed, api.ErrClosed)},
		// After a Reset everything begins anew, but what was told stays.
		{"ascii", "ascii", api.Strict, []script.Act{feed("ab", 16), reset(16)}, "", 0, fine(), told(0, 0)},
		{"ascii", "ascii", api.Strict, []script.Act{reset(0), reset(-1), feed("ab", 16), feed("c", 16)}, "abc", 3, fine(), told(0, 0, 0, 0)},
		{"ascii", "ascii", api.Strict, []script.Act{feed("a\x80", 16), reset(12), feed("bcd", 16), flush(16)}, "bcd", 3, fine(), told(api.ErrMap, 0, 0, 0)},
		{"ascii", "ascii", api.Strict, []script.Act{feed("abc", 16), flush(16), reset(16), feed("d\x80", 16)}, "d", 2, read(1, api.ErrMap), told(0, 0, 0, api.ErrMap)},
		{"tis-620", "utf-8", api.Strict, []script.Act{feed(thai, 16), reset(16), flush(16)}, "", 0, fine(), told(api.ErrSpace, 0, 0)},
		{"utf-8", "ascii", api.Strict, []script.Act{feed("\xe1", 16), reset(16), feed("z", 16)}, "z", 1, fine(), told(0, 0, 0)},
		{"iscii", "utf-8", api.Strict, []script.Act{feed("\xefC\xa4", 16), reset(16), feed("\xa4", 16), flush(16)}, "\u0905", 1, fine(), told(0, 0, 0, 0)},
		// A text or a room that a Flush or a Reset has says nothing.
		{"ascii", "ascii", api.Strict, []script.Act{{Kind: script.Flush, Room: 16, Text: []byte("ab")}, {Kind: script.Reset, Room: 16, Text: []byte("cd")}, feed("e", 16)}, "e", 1, fine(), told(0, 0, 0)},
	}
}

func TestRun(t *testing.T) { // P22.2
	for _, x := range samples() {
		s := open(t, x.from, x.to, x.p)
		reports(t, script.Run(s, x.acts), x.out, x.used, x.f, x.told...)
		if s.Fault() != x.f {
			t.Fatal(s.Fault())
		}
		// Behind a Reset the stream does as a new one.
		again := append([]script.Act{reset(16)}, x.acts...)
		reports(t, script.Run(s, again), x.out, x.used, x.f, append(told(0), x.told...)...)
	}
}

// TestOtherKinds has acts of kinds that there are not, which change nothing.
func TestOtherKinds(t *testing.T) { // P22.2
	for _, k := range []script.Kind{-1, 3, 4, 9, 256, 1 << 32, 1<<32 + 1, -1 << 32, math.MaxInt, math.MinInt} {
		odd := script.Act{Kind: k, Room: 16, Text: []byte("xyz")}
		s := open(t, "vni", "utf-8", api.Strict)
		l := []script.Act{odd, feed("ae", 16), odd, feed("\xe1", 16), odd, flush(16), odd}
		reports(t, script.Run(s, l), "a\u1ebf", 3, fine(), api.ErrArgument, 0, api.ErrArgument, 0, api.ErrArgument, 0, api.ErrArgument)
		s.Reset()
		reports(t, script.Run(s, []script.Act{odd}), "", 0, fine(), api.ErrArgument)
		s.Feed([]byte("\x80"), 16)
		reports(t, script.Run(s, []script.Act{odd}), "", 0, read(0, api.ErrMap), api.ErrArgument)
	}
}

// TestInParts has a stream be run more than once: each report says what the acts of its own brought.
func TestInParts(t *testing.T) { // P22.2
	s := open(t, "vni", "utf-8", api.Strict)
	reports(t, script.Run(s, []script.Act{feed("Tie", 16)}), "Ti", 3, fine(), 0)
	reports(t, script.Run(s, []script.Act{feed("\xe1nge", 16)}), "\u1ebfng", 4, fine(), 0)
	reports(t, script.Run(s, []script.Act{flush(16)}), "e", 0, fine(), 0)
	reports(t, script.Run(s, []script.Act{feed("a", 16), flush(16)}), "", 0, fine(), api.ErrClosed, api.ErrClosed)
	reports(t, script.Run(s, []script.Act{reset(16), feed("\x80", 16)}), "", 1, read(0, api.ErrMap), 0, api.ErrMap)
	reports(t, script.Run(s, []script.Act{reset(16)}), "", 0, fine(), 0)
}

// TestRunModel has all short rows of chosen acts, on a stream with a policy, against the stream's own calls.
func TestRunModel(t *testing.T) { // P22.2
	for _, x := range []struct {
		from, to string
		acts     []script.Act
	}{
		{"utf-8", "ascii", []script.Act{feed("a\xe1", 16), feed("\xba\xbfb", 40), feed("c\xff", 16), feed("cd", 15), flush(16), flush(12), reset(16), {Kind: 3, Room: 16}}},
		{"ascii", "utf-8", []script.Act{feed(strings.Repeat("\x80", 9), 16), feed("", 16), feed("ab", 43), flush(16), flush(15), reset(0), {Kind: -1}}},
		{"utf-8", "iscii", []script.Act{feed("\u094d", 16), feed("\u0995", 16), feed("\u093c\u0915\u0995\u0915\u0995\u0915\u0995\u0915", 16), flush(16), reset(16), {Kind: math.MaxInt}}},
	} {
		for _, p := range []api.Policy{api.Strict, api.Replace, api.Skip} {
			s, other := open(t, x.from, x.to, p), open(t, x.from, x.to, p)
			for n := range 4 {
				rows(x.acts, n, func(row []script.Act) {
					got, want := script.Run(s, row), expected(other, row)
					if !equal(got, want) || s.Owed() != other.Owed() {
						t.Fatalf("%s to %s, %d: %v: %v, not %v", x.from, x.to, p, row, got, want)
					}
					script.Run(s, []script.Act{reset(16)})
					other.Reset()
				})
			}
			// Without a Reset in between, as long as none of the acts is one.
			rows(x.acts, 2, func(row []script.Act) {
				if got, want := script.Run(s, row), expected(other, row); !equal(got, want) {
					t.Fatalf("%s to %s, %d: %v: %v, not %v", x.from, x.to, p, row, got, want)
				}
			})
		}
	}
}

func TestLongRuns(t *testing.T) { // P22.2
	const n = 50000
	var l []script.Act
	for range n {
		l = append(l, feed("abcdefgh", 16))
	}
	s := open(t, "ascii", "utf-8", api.Strict)
	r := script.Run(s, append(l, flush(16)))
	if string(r.Out) != strings.Repeat("abcdefgh", n) || r.Used != 8*n || len(r.Told) != n+1 || slices.Max(r.Told) != 0 || r.Fault != fine() {
		t.Fatal(len(r.Out), r.Used, len(r.Told), r.Fault)
	}
	r = script.Run(s, l)
	if len(r.Out) > 0 || r.Used != 0 || len(r.Told) != n || slices.Min(r.Told) != api.ErrClosed || slices.Max(r.Told) != api.ErrClosed {
		t.Fatal(len(r.Out), r.Used, len(r.Told), r.Fault)
	}
}

// TestRunKeepsNothing has the acts stay as they are, and reports share nothing with them, with the stream or with one another.
func TestRunKeepsNothing(t *testing.T) { // P22.2, W6
	l := []script.Act{feed("ab", 16), {Kind: 7}, feed("cd", 16)}
	s := open(t, "ascii", "ascii", api.Strict)
	r := script.Run(s, l)
	if !same(l, []script.Act{feed("ab", 16), {Kind: 7}, feed("cd", 16)}) {
		t.Fatal(l)
	}
	clear(l[0].Text)
	clear(l[2].Text)
	clear(l)
	reports(t, r, "abcd", 4, fine(), 0, api.ErrArgument, 0)
	other := script.Run(s, []script.Act{feed("efgh", 16), flush(16)})
	clear(append(r.Out, "xyzxyzxyz"...))
	clear(append(r.Told, 7, 7, 7))
	clear(r.Out)
	clear(r.Told)
	reports(t, other, "efgh", 4, fine(), 0, 0)
	wide := open(t, "tis-620", "utf-8", api.Strict)
	r = script.Run(wide, []script.Act{feed("\xa1\xa1\xa1\xa1\xa1\xa1", 16)})
	clear(append(r.Out, "xyzxyzxyz"...))
	clear(r.Out)
	reports(t, script.Run(wide, []script.Act{flush(16)}), "\xb8\x81", 0, fine(), 0)
}

// TestZeroStream has a Stream that Open did not make, which is closed.
func TestZeroStream(t *testing.T) {
	l := []script.Act{feed("ab", 16), flush(16), {Kind: 3}, reset(16), feed("ab", 16)}
	reports(t, script.Run(&stream.Stream{}, l), "", 0, fine(), api.ErrClosed, api.ErrClosed, api.ErrArgument, 0, api.ErrClosed)
}

func TestBytes(t *testing.T) { // P22.3
	// 22 (hexadecimal) is viscii to vni, 09 ascii to ascii, 05 tis-620 to utf-8.
	reports(t, runs(t, "\x22\x20\x05Ti\xaang\x26"), "Tie\xe1ng", 5, fine(), 0, 0)
	reports(t, runs(t, "\x09"), "", 0, fine())
	reports(t, runs(t, "\x09\x20"), "", 0, fine(), 0)
	reports(t, runs(t, "\x09\x00"), "", 0, fine(), api.ErrArgument)
	reports(t, runs(t, "\x09\x1f\x1e\x20\x01a"), "a", 1, fine(), 0, api.ErrArgument, 0)
	reports(t, runs(t, "\x09\x20\x02a\x80\x26"), "a", 2, read(1, api.ErrMap), api.ErrMap, api.ErrClosed)
	reports(t, runs(t, "\x49\x20\x02a\x80\x26"), "a?", 2, fine(), 0, 0)
	reports(t, runs(t, "\x89\x20\x02a\x80\x26"), "a", 2, fine(), 0, 0)
	reports(t, runs(t, "\xc9\x20\x02a\x80\x26"), "a", 2, read(1, api.ErrMap), api.ErrMap, api.ErrClosed)
	reports(t, runs(t, "\x05\x20\x1f"+strings.Repeat("\xa1", 31)+"\x26\x26"), strings.Repeat("\u0e01", 6), 6, fine(), api.ErrSpace, 0, api.ErrClosed)
	reports(t, runs(t, "\x09\x20\x02a\x80\x27\x20\x01b\x26"), "b", 1, fine(), api.ErrMap, 0, 0, 0)
	// The first byte is no act, whatever it is.
	reports(t, runs(t, "\xff\x20\x01a\x26"), "a", 1, fine(), 0, 0)
	reports(t, runs(t, "\x0e\x20\x01a\x26"), "a", 1, fine(), 0, 0)
}

func TestBytesOfNone(t *testing.T) { // P22.3, W3
	for _, b := range [][]byte{nil, {}, make([]byte, 0, 9), []byte("\x09")[:0]} {
		r, ok := script.Bytes(b)
		if ok || len(r.Out) > 0 || r.Used != 0 || len(r.Told) > 0 || r.Fault != fine() {
			t.Fatal(r, ok)
		}
	}
}

// TestBytesModel has each stream that a byte tells do some acts, against its own calls.
func TestBytesModel(t *testing.T) { // P22.3
	tails := []string{"", "\x20\x1fTi\xe1\xba\xbfng \xa6\xb0\xaa \xefC\xb3\xe9 \x80\x27\x26", "\x20\x03e\xe1\xd2\x06\x26\x27\x05\xf8\x02\xe1\xba\x20\x04\xbf\xb3\xe8\xe9\xfe", "\x26\x20\x01a\x27\xf8\x0a\xa1\xa4\xa5\xef\xef\xa6\xa6\xaa\xb0\xe1"}
	for c := range 256 {
		from, to, p := names()[c%8], names()[c/8%8], api.Policy(c/64%3)
		for _, tail := range tails {
			want := expected(open(t, from, to, p), model(tail))
			if got := runs(t, string([]byte{byte(c)})+tail); !equal(got, want) {
				t.Fatalf("%d, %q: %v, not %v", c, tail, got, want)
			}
		}
	}
}

// texts are words in the codecs, and bytes that are cut off or wrong.
func texts() []string {
	return []string{
		"", "a", "Ti\xe1\xba\xbfng Vi\xe1\xbb\x87t", "Ti\xaang", "Tie\xe1ng", "\xa1\xd2\xc3\xe9",
		"\xa6\xb0\xaa\xb4\xad\xa6", "\xef\x43\xb3\xda\xa4\xe8\xe9\xef", "\xe0\xa5\x8d\xe0\xa6\x95\xe0\xa4\xbc\xe1\xba",
		"\xe0\xaf\x86\xe0\xae\x95\xff", "\x00\x02\x7f\x80\xff",
	}
}

// TestSmallParts has a text come byte by byte: the report is that of all of it at once.
func TestSmallParts(t *testing.T) { // P22.2, P22.3, T1
	for c := range 192 {
		from, to, p := script.Pair(byte(c))
		for _, in := range texts() {
			l := []script.Act{}
			for k := range len(in) {
				l = append(l, feed(in[k:k+1], 43))
			}
			r := runs(t, string([]byte{byte(c)})+made(append(l, flush(43))))
			out, f, _ := stream.All(from, to, p, []byte(in))
			if string(r.Out) != string(out) || r.Fault != f || len(r.Told) != len(in)+1 || r.Used > len(in) || r.Used < len(in) && f == fine() {
				t.Fatalf("%s to %s, %d, %q: %v, not %q, %v", from, to, p, in, r, out, f)
			}
		}
	}
}

// TestBytesAgain has the same bytes always bring the same, and reports that share nothing.
func TestBytesAgain(t *testing.T) { // P22.3, W2, W6
	in := "\x09\x20\x04abcd\x26\x26"
	b := []byte(in)
	r, _ := script.Bytes(b)
	other, _ := script.Bytes(b)
	clear(b)
	clear(append(r.Out, "xyz"...))
	clear(append(r.Told, 7))
	clear(r.Out)
	clear(r.Told)
	reports(t, other, "abcd", 4, fine(), 0, 0, api.ErrClosed)
	reports(t, runs(t, in), "abcd", 4, fine(), 0, 0, api.ErrClosed)
}
