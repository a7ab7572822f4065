package stream_test

import (
	"math"
	"slices"
	"strings"
	"testing"

	"lontar/api"
	"lontar/codec"
	"lontar/stream"
)

// policies are all that there are.
func policies() []api.Policy { return []api.Policy{api.Strict, api.Replace, api.Skip} }

// read and write are what is wrong on a side.
func read(at int, e api.Errno) stream.Fault { return stream.Fault{Side: stream.Read, At: at, Err: e} }

func write(at int) stream.Fault { return stream.Fault{Side: stream.Write, At: at, Err: api.ErrMap} }

// fine is that nothing is wrong.
func fine() stream.Fault { return stream.Fault{} }

// open is a stream that there must be.
func open(t *testing.T, from, to string, p api.Policy) *stream.Stream {
	t.Helper()
	s, e := stream.Open(from, to, p)
	if s == nil || e != 0 {
		t.Fatalf("%q to %q, %d: %v", from, to, p, e)
	}
	return s
}

// all is what becomes of bytes between codecs that there are.
func all(t *testing.T, from, to string, p api.Policy, in string) (string, stream.Fault) {
	t.Helper()
	out, f, e := stream.All(from, to, p, []byte(in))
	if e != 0 {
		t.Fatalf("%q to %q, %d: %v", from, to, p, e)
	}
	return string(out), f
}

// feeds and flushes hold what a call answers.
func feeds(t *testing.T, s *stream.Stream, in string, room int, out string, n int, e api.Errno) {
	t.Helper()
	if got, k, x := s.Feed([]byte(in), room); string(got) != out || k != n || x != e {
		t.Fatalf("%q fed with room %d: %q, %d, %v, not %q, %d, %v", in, room, got, k, x, out, n, e)
	}
}

func flushes(t *testing.T, s *stream.Stream, room int, out string, e api.Errno) {
	t.Helper()
	if got, x := s.Flush(room); string(got) != out || x != e {
		t.Fatalf("flushed with room %d: %q, %v, not %q, %v", room, got, x, out, e)
	}
}

// stands holds what a stream tells of itself; asking twice must not change it.
func stands(t *testing.T, s *stream.Stream, f stream.Fault, reads, writes, owed int) {
	t.Helper()
	for range 2 {
		r, w := s.Held()
		if s.Fault() != f || r != reads || w != writes || s.Owed() != owed {
			t.Fatalf("fault %v, held %d and %d, owed %d, not %v, %d and %d, %d", s.Fault(), r, w, s.Owed(), f, reads, writes, owed)
		}
	}
}

// ended holds that nothing is taken any more, whatever the room is, and that asking changes nothing.
func ended(t *testing.T, s *stream.Stream) {
	t.Helper()
	f, owed := s.Fault(), s.Owed()
	r, w := s.Held()
	for _, room := range []int{16, 1 << 20, 15, 0, -1, math.MaxInt, math.MinInt} {
		feeds(t, s, "ab\xff", room, "", 0, api.ErrClosed)
		feeds(t, s, "", room, "", 0, api.ErrClosed)
		flushes(t, s, room, "", api.ErrClosed)
	}
	stands(t, s, f, r, w, owed)
}

// little holds that a room below the least one is refused, and that asking changes nothing.
func little(t *testing.T, s *stream.Stream) {
	t.Helper()
	f, owed := s.Fault(), s.Owed()
	r, w := s.Held()
	for _, room := range []int{15, 14, 1, 0, -1, -16, -17, math.MinInt, math.MinInt + 16} {
		feeds(t, s, "ab\xff", room, "", 0, api.ErrArgument)
		feeds(t, s, "", room, "", 0, api.ErrArgument)
		flushes(t, s, room, "", api.ErrArgument)
	}
	stands(t, s, f, r, w, owed)
}

func TestOpen(t *testing.T) { // P20.1
	for _, from := range append(codec.Names(), "UTF8", "Us-Ascii", "viscii1.1-1", "ABC", "VNI-Win", "iso-8859-11", "TSCII", "iscii-91") {
		for _, to := range append(codec.Names(), "UTF8", "Us-Ascii", "viscii1.1-1", "ABC", "VNI-Win", "iso-8859-11", "TSCII", "iscii-91") {
			for _, p := range policies() {
				s := open(t, from, to, p)
				stands(t, s, fine(), 0, 0, 0)
				feeds(t, s, "z", 16, "z", 1, 0)
				flushes(t, s, 16, "", 0)
				if out, f := all(t, from, to, p, "az"); out != "az" || f != fine() {
					t.Fatal(from, to, p, out, f)
				}
			}
		}
	}
}

func TestOpenOfNone(t *testing.T) { // P20.1, P20.5, W1, W3, W4
	for _, x := range []struct {
		from, to string
		p        api.Policy
		e        api.Errno
	}{
		{"x", "ascii", api.Strict, api.ErrUnknown},
		{"ascii", "x", api.Strict, api.ErrUnknown},
		{"", "", api.Skip, api.ErrUnknown},
		{"", "vni", api.Replace, api.ErrUnknown},
		{"vni", "", api.Replace, api.ErrUnknown},
		{"utf-16", "utf-8", api.Strict, api.ErrUnknown},
		{"utf-8", "utf-8 ", api.Strict, api.ErrUnknown},
		{"utf-8", "\xff", api.Strict, api.ErrUnknown},
		{"latin1", "utf-8", api.Replace, api.ErrUnknown},
		{strings.Repeat("utf-8", 1<<16), "utf-8", api.Strict, api.ErrUnknown},
		{"ascii", "ascii", -1, api.ErrArgument},
		{"ascii", "ascii", 3, api.ErrArgument},
		{"VISCII", "utf8", 4, api.ErrArgument},
		{"iscii", "tscii", math.MaxInt, api.ErrArgument},
		{"iscii", "tscii", math.MinInt, api.ErrArgument},
		{"utf-8", "vni", 1 << 32, api.ErrArgument},
		{"utf-8", "vni", -1 << 32, api.ErrArgument},
		// The name counts ahead of the policy.
		{"x", "ascii", 3, api.ErrUnknown},
		{"ascii", "x", -1, api.ErrUnknown},
		{"", "x", math.MinInt, api.ErrUnknown},
	} {
		if s, e := stream.Open(x.from, x.to, x.p); s != nil || e != x.e {
			t.Errorf("%q to %q, %d: %v, %v", x.from, x.to, x.p, s, e)
		}
		for _, b := range [][]byte{nil, []byte("a"), []byte("a\xff")} {
			if out, f, e := stream.All(x.from, x.to, x.p, b); len(out) > 0 || f != fine() || e != x.e {
				t.Errorf("%q to %q, %d: %q, %v, %v", x.from, x.to, x.p, out, f, e)
			}
		}
	}
}

// sample is what becomes of bytes, by hand.
type sample struct {
	from, to string
	p        api.Policy
	in, out  string
	f        stream.Fault
}

// plain are samples in which nothing is wrong, or what is wrong does not end it.
func plain() []sample {
	return []sample{
		{"ascii", "ascii", api.Strict, "", "", fine()},
		{"viscii", "vni", api.Strict, "Ti\xaang", "Tie\xe1ng", fine()},
		{"vni", "viscii", api.Strict, "Tie\xe1ng", "Ti\xaang", fine()},
		{"vni", "tcvn3", api.Strict, "Tie\xe1ng Vie\xe4t", "Ti\xd5ng Vi\xd6t", fine()},
		{"tcvn3", "utf-8", api.Replace, "Ti\xd5ng", "Ti\u1ebfng", fine()},
		{"tis-620", "utf-8", api.Strict, "\xe4\xb7\xc2", "\u0e44\u0e17\u0e22", fine()},
		{"utf-8", "tis-620", api.Skip, "\u0e44\u0e17\u0e22", "\xe4\xb7\xc2", fine()},
		{"tscii", "utf-8", api.Strict, "\xa6\xb0\xaa\xb4\xad", "\u0b95\u0bca\u0b9f\u0bc1", fine()},
		{"utf-8", "tscii", api.Strict, "\u0b95\u0bca\u0b9f\u0bc1", "\xa6\xb0\xaa\xb4\xad", fine()},
		{"iscii", "utf-8", api.Strict, "\xefC\xa4 \xefJ\xb3\xea", "\u0985 \u0a95\u0964", fine()},
		{"utf-8", "iscii", api.Strict, "\u0985 \u0a95\u0964", "\xefC\xa4 \xefJ\xb3\xea", fine()},
		// Tamil has bytes in both.
		{"tscii", "iscii", api.Strict, "\xa6\xb0\xaa", "\xefD\xb3\xe4", fine()},
		// What is read only when no more bytes come, and what is written only then.
		{"vni", "utf-8", api.Strict, "e", "e", fine()},
		{"tscii", "utf-8", api.Strict, "\xa6", "\u0bc6", fine()},
		{"utf-8", "tscii", api.Strict, "\u0b95", "\xb0", fine()},
		{"tscii", "tscii", api.Strict, "\xa6\xb0", "\xa6\xb0", fine()},
		{"iscii", "iscii", api.Strict, "\xe8", "\xe8", fine()},
		// A switch that changes nothing is not written.
		{"iscii", "iscii", api.Strict, "\xefC\xefC\xa4\xefC\xa4\xefB\xefC", "\xefC\xa4\xa4", fine()},
		// Wrong ones: each token is replaced by one scalar, or one byte.
		{"ascii", "utf-8", api.Replace, "A\x80B", "A\ufffdB", fine()},
		{"ascii", "utf-8", api.Skip, "A\x80B", "AB", fine()},
		{"utf-8", "utf-8", api.Replace, "\xe1\x80A\xff\xff", "\ufffdA\ufffd\ufffd", fine()},
		{"utf-8", "utf-8", api.Replace, "a\xf0\x9f\x98", "a\ufffd", fine()},
		{"utf-8", "utf-8", api.Skip, "a\xf0\x9f\x98", "a", fine()},
		{"utf-8", "utf-8", api.Skip, "\xe1\x80A\xff\xff", "A", fine()},
		{"utf-8", "ascii", api.Replace, "\u1ebf\U0001f600z", "??z", fine()},
		{"utf-8", "ascii", api.Skip, "\u1ebf\U0001f600z", "z", fine()},
		// What stands for what is no scalar is not mapped in its turn.
		{"ascii", "ascii", api.Replace, "A\x80\xffB", "A??B", fine()},
		{"utf-8", "viscii", api.Replace, "\xe1\x80A", "?A", fine()},
		{"ascii", "ascii", api.Skip, "A\x80\xffB", "AB", fine()},
		{"utf-8", "ascii", api.Replace, "\ufffd", "?", fine()},
		{"utf-8", "utf-8", api.Strict, "\ufffd?", "\ufffd?", fine()},
		// A letter without bytes switches the script all the same.
		{"utf-8", "iscii", api.Replace, "\u094d\u094d\u0995", "\xe8?\xefC\xb3", fine()},
		{"utf-8", "iscii", api.Skip, "\u094d\u094d\u0995", "\xe8\xefC\xb3", fine()},
		// Nothing is told to the machine of what was replaced: what is written is held against the last byte that was.
		{"utf-8", "iscii", api.Replace, "\u0915\u0e01\u093c", "\xb3??", fine()},
		{"utf-8", "iscii", api.Skip, "\u0915\u0e01\u093c", "\xb3", fine()},
	}
}

// broken are samples that what is wrong ends.
func broken() []sample {
	return []sample{
		{"ascii", "ascii", api.Strict, "A\x80", "A", read(1, api.ErrMap)},
		{"ascii", "utf-8", api.Strict, "\x80", "", read(0, api.ErrMap)},
		{"ascii", "utf-8", api.Strict, "AB\xffC\xffD", "AB", read(2, api.ErrMap)},
		{"tcvn3", "viscii", api.Strict, "a\xd5\xba", "a\xaa", read(2, api.ErrMap)},
		{"utf-8", "utf-8", api.Strict, "a\xe1\x80A", "a", read(1, api.ErrForm)},
		{"utf-8", "utf-8", api.Strict, "a\xe1\x80", "a", read(1, api.ErrShort)},
		{"utf-8", "ascii", api.Strict, "abc\u1ebfd", "abc", write(3)},
		{"utf-8", "ascii", api.Strict, "\u1ebf", "", write(0)},
		// On the one side bytes are counted, on the other one scalars.
		{"utf-8", "viscii", api.Strict, "\u1ebf\u1ebf\u0e01", "\xaa\xaa", write(2)},
		{"utf-8", "viscii", api.Strict, "\u1ebf\u1ebf\xff", "\xaa\xaa", read(6, api.ErrForm)},
		{"vni", "ascii", api.Strict, "xe\xe1y", "x", write(1)},
		// What is wrong first counts, though it shows later.
		{"utf-8", "ascii", api.Strict, "a\u1ebf\xff", "a", write(1)},
		{"utf-8", "ascii", api.Strict, "a\xff\u1ebf", "a", read(1, api.ErrForm)},
		// A byte that is wrong has what waits be written ahead of it.
		{"utf-8", "tscii", api.Strict, "\u0b95\xffz", "\xb0", read(3, api.ErrForm)},
		{"utf-8", "iscii", api.Strict, "\u094d\xe0", "\xe8", read(3, api.ErrShort)},
		{"utf-8", "iscii", api.Strict, "\u0995\u09cd\xffz", "\xefC\xb3\xe8", read(6, api.ErrForm)},
		// .. and if that is wrong, it is that.
		{"utf-8", "tscii", api.Strict, "\u0bc6\u0b95\xff", "\xa6", write(1)},
		{"utf-8", "tscii", api.Strict, "\u0bc6\u0b95\xe0", "\xa6", write(1)},
		{"utf-8", "iscii", api.Strict, "\u094d\u094d\xff", "\xe8", write(1)},
		// What is wrong only when no more bytes come.
		{"tscii", "ascii", api.Strict, "a\xa6", "a", write(1)},
		{"tscii", "viscii", api.Strict, "a\xa6\xb0", "a", write(1)},
		{"utf-8", "iscii", api.Strict, "\u094d\u094d", "\xe8", write(1)},
		{"utf-8", "tscii", api.Strict, "z\u0bc6\u0b95", "z\xa6", write(2)},
		// Of the tokens that one scalar brings, those behind the wrong one are not written.
		{"utf-8", "iscii", api.Strict, "\u094d\u094d\u0995", "\xe8", write(1)},
		{"utf-8", "iscii", api.Strict, "\u094d\u094da", "\xe8", write(1)},
		// Of the tokens that one byte brings, those behind the wrong one are not read.
		{"utf-8", "utf-8", api.Strict, "\xe1\x80A", "", read(0, api.ErrForm)},
		{"tscii", "utf-8", api.Strict, "\xa6\xb0\x80z", "\u0b95\u0bc6", read(2, api.ErrMap)},
		{"tscii", "ascii", api.Strict, "\xa6\xb0z", "", write(0)},
		// Of the scalars of one token, those behind the wrong one are not written.
		{"tscii", "tis-620", api.Strict, "z\xd0", "z", write(1)},
		{"iscii", "tscii", api.Strict, "\xefD\xb3\xe8\xe9z", "\xd0", write(2)},
	}
}

// given is all samples; a policy other than Strict has no fault.
func given() []sample { return append(plain(), broken()...) }

func TestAll(t *testing.T) { // P20.2, P20.5
	for _, x := range given() {
		for _, from := range []string{x.from, strings.ToUpper(x.from)} {
			if out, f := all(t, from, x.to, x.p, x.in); out != x.out || f != x.f {
				t.Errorf("%s to %s, %d: %q is %q, %v, not %q, %v", from, x.to, x.p, x.in, out, f, x.out, x.f)
			}
		}
	}
}

// errs is the error that a fault makes.
func errs(f stream.Fault) api.Errno { return f.Err }

func TestSamplesThroughAStream(t *testing.T) { // P20.2, P20.3, P20.4
	for _, x := range given() {
		s := open(t, x.from, x.to, x.p)
		for range 2 {
			out, e, told := "", api.Errno(0), api.Errno(0)
			for k := range len(x.in) {
				var got []byte
				n := 0
				got, n, told = s.Feed([]byte(x.in[k:k+1]), 1<<20)
				out += string(got)
				if n != 1 || told != s.Fault().Err {
					t.Fatalf("%q at %d: %d, %v", x.in, k, n, told)
				}
				if told != 0 {
					break
				}
			}
			if told == 0 {
				var got []byte
				got, e = s.Flush(1 << 20)
				out += string(got)
			} else {
				e = told
			}
			if out != x.out || s.Fault() != x.f || e != errs(x.f) || s.Owed() != 0 {
				t.Errorf("%s to %s, %d: %q is %q, %v, %v, not %q, %v", x.from, x.to, x.p, x.in, out, s.Fault(), e, x.out, x.f)
			}
			ended(t, s)
			s.Reset()
		}
	}
}

func TestRoom(t *testing.T) { // P20.3
	thai := strings.Repeat("\xa1", 30)
	wide := strings.Repeat("\u0e01", 30)
	s := open(t, "tis-620", "utf-8", api.Strict)
	little(t, s)
	// The byte that fills the room is the last one.
	feeds(t, s, thai, 18, wide[:18], 6, 0)
	stands(t, s, fine(), 0, 0, 0)
	// A byte is read as long as one byte of room is there, and what is too much is owed.
	feeds(t, s, thai, 16, wide[:16], 6, api.ErrSpace)
	stands(t, s, fine(), 0, 0, 2)
	little(t, s)
	feeds(t, s, thai, 16, wide[16:18]+wide[:14], 5, api.ErrSpace)
	stands(t, s, fine(), 0, 0, 1)
	feeds(t, s, thai, 17, wide[14:15]+wide[:16], 6, api.ErrSpace)
	stands(t, s, fine(), 0, 0, 2)
	feeds(t, s, "", 16, wide[16:18], 0, 0)
	feeds(t, s, "", 16, "", 0, 0)
	feeds(t, s, thai, math.MaxInt, wide, 30, 0)
	feeds(t, s, thai[:5], 16, wide[:15], 5, 0)
	feeds(t, s, thai[:6], 17, wide[:17], 6, api.ErrSpace)
	flushes(t, s, 16, wide[17:18], 0)
	ended(t, s)
	stands(t, s, fine(), 0, 0, 0)
	// One byte of output a byte of input: with 16 owed there is no room for more, and nothing is owed still.
	s = open(t, "ascii", "ascii", api.Strict)
	feeds(t, s, "abcdefghijklmnopqrstuvwxyz", 16, "abcdefghijklmnop", 16, 0)
	feeds(t, s, "qrstuvwxyz", 16, "qrstuvwxyz", 10, 0)
	feeds(t, s, "abcdefghijklmnopqrstuvwxyz", 25, "abcdefghijklmnopqrstuvwxy", 25, 0)
	feeds(t, s, "", math.MaxInt, "", 0, 0)
	stands(t, s, fine(), 0, 0, 0)
}

func TestWhatIsWrongWaitsForWhatIsOwed(t *testing.T) { // P20.3, P20.4
	begin := func() *stream.Stream {
		s := open(t, "tscii", "utf-8", api.Strict)
		feeds(t, s, "\xaa\xaa\xaa\xaa\xaa\xa6\xb0\x80z", 16, "\u0bbe\u0bbe\u0bbe\u0bbe\u0bbe\xe0", 8, api.ErrSpace)
		stands(t, s, read(7, api.ErrMap), 0, 0, 5)
		little(t, s)
		stands(t, s, read(7, api.ErrMap), 0, 0, 5)
		return s
	}
	rest := "\xae\x95\u0bc6"
	s := begin()
	feeds(t, s, "z\xff", 16, rest, 0, api.ErrMap)
	stands(t, s, read(7, api.ErrMap), 0, 0, 0)
	ended(t, s)
	s = begin()
	flushes(t, s, 16, rest, api.ErrMap)
	stands(t, s, read(7, api.ErrMap), 0, 0, 0)
	ended(t, s)
	s.Reset()
	stands(t, s, fine(), 0, 0, 0)
	feeds(t, s, "\xa6\xb0\xaa", 16, "\u0b95\u0bca", 3, 0)
	flushes(t, s, 16, "", 0)
}

func TestTheByteThatIsWrongIsTaken(t *testing.T) { // P20.3
	s := open(t, "ascii", "ascii", api.Strict)
	feeds(t, s, "ab\x80cd", 16, "ab", 3, api.ErrMap)
	stands(t, s, read(2, api.ErrMap), 0, 0, 0)
	ended(t, s)
	s = open(t, "utf-8", "ascii", api.Strict)
	feeds(t, s, "ab\u0e01cd", 16, "ab", 5, api.ErrMap)
	stands(t, s, write(2), 0, 0, 0)
	ended(t, s)
	s = open(t, "ascii", "ascii", api.Replace)
	feeds(t, s, "ab\x80cd", 16, "ab?cd", 5, 0)
	stands(t, s, fine(), 0, 0, 0)
	flushes(t, s, 16, "", 0)
	s = open(t, "ascii", "ascii", api.Skip)
	feeds(t, s, "ab\x80cd", 16, "abcd", 5, 0)
	stands(t, s, fine(), 0, 0, 0)
	flushes(t, s, 16, "", 0)
}

func TestHeld(t *testing.T) { // P20.1
	s := open(t, "utf-8", "iscii", api.Strict)
	feeds(t, s, "\xe0", 16, "", 1, 0)
	stands(t, s, fine(), 1, 0, 0)
	feeds(t, s, "\xa5", 16, "", 1, 0)
	stands(t, s, fine(), 2, 0, 0)
	feeds(t, s, "\x8d", 16, "", 1, 0)
	stands(t, s, fine(), 0, 1, 0)
	feeds(t, s, "\xf0\x9f\x98", 16, "", 3, 0)
	stands(t, s, fine(), 3, 1, 0)
	flushes(t, s, 16, "\xe8", api.ErrShort)
	stands(t, s, read(3, api.ErrShort), 0, 0, 0)
	ended(t, s)
	// What waits behind what is wrong waits for ever: nothing more is written, not even the end.
	s = open(t, "utf-8", "iscii", api.Strict)
	feeds(t, s, "\u094d\u094d\u094d", 16, "\xe8", 9, api.ErrMap)
	stands(t, s, write(1), 0, 1, 0)
	ended(t, s)
	s = open(t, "tscii", "ascii", api.Strict)
	feeds(t, s, "\xa7\xa6", 16, "", 2, api.ErrMap)
	stands(t, s, write(0), 1, 0, 0)
	ended(t, s)
	s.Reset()
	stands(t, s, fine(), 0, 0, 0)
	feeds(t, s, "\xa6", 16, "", 1, 0)
	stands(t, s, fine(), 1, 0, 0)
	flushes(t, s, 16, "", api.ErrMap)
	stands(t, s, write(0), 0, 0, 0)
}

func TestNothingIsWrittenBehindAFault(t *testing.T) { // P20.2
	// The first scalar of the last byte brings what is wrong; the second one, which would wait, is not written.
	s := open(t, "tscii", "iscii", api.Strict)
	feeds(t, s, "\xd0", 16, "\xefD\xb3", 1, 0)
	stands(t, s, fine(), 0, 1, 0)
	s = open(t, "tscii", "iscii", api.Strict)
	feeds(t, s, "\xa9\xa9", 16, "\xefD\xe8", 2, 0)
	stands(t, s, fine(), 0, 1, 0)
	feeds(t, s, "\xd0", 16, "", 1, api.ErrMap)
	stands(t, s, write(1), 0, 0, 0)
	ended(t, s)
	// In these the scalar that waits behind what is wrong waits on: neither a byte that is wrong as well has it be written, nor the end.
	begin := func() *stream.Stream {
		s := open(t, "iscii", "tscii", api.Strict)
		feeds(t, s, "\xefD\xe0\xb3\xb3", 16, "\xa6", 5, 0)
		stands(t, s, fine(), 1, 1, 0)
		return s
	}
	s = begin()
	feeds(t, s, "\xff", 16, "", 1, api.ErrMap)
	stands(t, s, write(1), 0, 1, 0)
	ended(t, s)
	s = begin()
	flushes(t, s, 16, "", api.ErrMap)
	stands(t, s, write(1), 0, 1, 0)
	ended(t, s)
	// A byte that is wrong has all be written that waits, and it is put once.
	s = open(t, "iscii", "tscii", api.Strict)
	feeds(t, s, "\xefD\xb3\xe8", 16, "", 4, 0)
	stands(t, s, fine(), 1, 1, 0)
	feeds(t, s, "\xff\xff", 16, "\xd0", 1, api.ErrMap)
	stands(t, s, read(4, api.ErrMap), 0, 0, 0)
	s = open(t, "tscii", "tis-620", api.Strict)
	feeds(t, s, "z\xd0", 16, "z", 2, api.ErrMap)
	stands(t, s, write(1), 0, 0, 0)
}

func TestFlush(t *testing.T) { // P20.4
	s := open(t, "tscii", "tscii", api.Strict)
	feeds(t, s, "\xa6\xb0", 16, "", 2, 0)
	stands(t, s, fine(), 2, 0, 0)
	little(t, s)
	flushes(t, s, 16, "\xa6\xb0", 0)
	stands(t, s, fine(), 0, 0, 0)
	ended(t, s)
	s.Reset()
	flushes(t, s, math.MaxInt, "", 0)
	ended(t, s)
	// A room that is refused flushes nothing.
	s.Reset()
	flushes(t, s, 15, "", api.ErrArgument)
	feeds(t, s, "a", 16, "a", 1, 0)
	// What is owed comes ahead of what the end brings.
	s = open(t, "tscii", "utf-8", api.Strict)
	feeds(t, s, "aaa\xaa\xaa\xaa\xaa\xa7\xb0\xa7", 16, "aaa\u0bbe\u0bbe\u0bbe\u0bbe\xe0", 10, api.ErrSpace)
	stands(t, s, fine(), 1, 0, 5)
	flushes(t, s, 16, "\xae\x95\u0bc7\u0bc7", 0)
	ended(t, s)
	// What is wrong at the end: of the bytes, of the scalars they bring, of those that waited.
	s = open(t, "utf-8", "utf-8", api.Replace)
	feeds(t, s, "\xf4\x8f", 16, "", 2, 0)
	flushes(t, s, 16, "\ufffd", 0)
	ended(t, s)
	s = open(t, "utf-8", "utf-8", api.Skip)
	feeds(t, s, "\xf4\x8f", 16, "", 2, 0)
	flushes(t, s, 16, "", 0)
	ended(t, s)
	s = open(t, "tscii", "ascii", api.Replace)
	feeds(t, s, "\xa6\xb0", 16, "", 2, 0)
	flushes(t, s, 16, "??", 0)
	s = open(t, "utf-8", "iscii", api.Replace)
	feeds(t, s, "\u094d\u094d", 16, "\xe8", 6, 0)
	stands(t, s, fine(), 0, 1, 0)
	flushes(t, s, 16, "?", 0)
	ended(t, s)
}

func TestReset(t *testing.T) { // P20.1, W2
	for _, x := range given() {
		used := open(t, x.from, x.to, x.p)
		for _, before := range []func(){
			func() {},
			func() { used.Feed([]byte("\xff\xa6\xe8"), 16) },
			func() { used.Feed([]byte("\xefC\xb3\xe8\xd0\xa7"), 16) },
			func() { used.Feed([]byte(strings.Repeat("\u0e01\xa6\xb0\xaa", 9)), 16) },
			func() { used.Feed([]byte("e"), 16); used.Flush(16) },
			func() { used.Flush(15); used.Flush(16); used.Flush(16) },
			func() { used.Reset(); used.Reset() },
		} {
			before()
			used.Reset()
			stands(t, used, fine(), 0, 0, 0)
			var out []byte
			got, n, e := used.Feed([]byte(x.in), 1<<20)
			out = append(out, got...)
			if e == 0 {
				got, e = used.Flush(1 << 20)
				out = append(out, got...)
			}
			if string(out) != x.out || used.Fault() != x.f || e != errs(x.f) || n > len(x.in) {
				t.Fatalf("%s to %s, %d: %q is %q, %v after a reset", x.from, x.to, x.p, x.in, out, used.Fault())
			}
		}
	}
}

func TestZeroStream(t *testing.T) { // W1: it has no codecs
	s := &stream.Stream{}
	ended(t, s)
	s.Reset()
	stands(t, s, fine(), 0, 0, 0)
	ended(t, s)
}

func TestNothingIsShared(t *testing.T) { // W2, W6
	spoil := func(b []byte) {
		for k := range b {
			b[k] = 0xff
		}
		_ = append(b, "\xff\xff\xff\xff\xff\xff\xff\xff"...)
	}
	a, b := open(t, "tis-620", "utf-8", api.Strict), open(t, "tis-620", "utf-8", api.Strict)
	in := []byte("\xa1\xa2\xa3\xa4\xa5\xa6\xa7\xa8")
	kept := slices.Clone(in)
	out, n, e := a.Feed(in, 16)
	if len(out) != 16 || n != 6 || e != api.ErrSpace || !slices.Equal(in, kept) {
		t.Fatal(out, n, e, in)
	}
	spoil(out)
	stands(t, b, fine(), 0, 0, 0)
	out, n, e = a.Feed(in[6:], 16)
	if string(out) != "\xb8\x86\u0e07\u0e08" || n != 2 || e != 0 {
		t.Fatalf("%q, %d, %v", out, n, e)
	}
	spoil(out)
	feeds(t, a, "\xa1", 16, "\u0e01", 1, 0)
	feeds(t, b, "\xa2", 16, "\u0e02", 1, 0)
	flushes(t, a, 16, "", 0)
	flushes(t, b, 16, "", 0)
	// Bytes that wait are the stream's own.
	s := open(t, "utf-8", "tscii", api.Strict)
	in = []byte("\u0b95\xe0\xae")
	s.Feed(in, 16)
	spoil(in)
	feeds(t, s, "\x95", 16, "\xb0", 1, 0)
	flushes(t, s, 16, "\xb0", 0)
	for range 2 {
		in = []byte("Ti\u1ebfng\xff")
		out, f, e := stream.All("utf-8", "vni", api.Replace, in)
		if string(out) != "Tie\xe1ng?" || f != fine() || e != 0 || string(in) != "Ti\u1ebfng\xff" {
			t.Fatalf("%q, %v, %v, %q", out, f, e, in)
		}
		spoil(out)
	}
	// What ISCII has switched in one stream is not switched in another one, nor after a reset.
	s = open(t, "iscii", "iscii", api.Strict)
	feeds(t, s, "\xefC\xa4 ", 16, "\xefC\xa4 ", 4, 0)
	feeds(t, open(t, "iscii", "iscii", api.Strict), "\xa4 ", 16, "\xa4 ", 2, 0)
	feeds(t, s, "\xa4 ", 16, "\xa4 ", 2, 0)
	s.Reset()
	feeds(t, s, "\xa4\xefC\xa4 ", 16, "\xa4\xefC\xa4 ", 5, 0)
}
