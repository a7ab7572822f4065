package stream

import (
	"strings"
	"testing"

	"lontar/api"
	"lontar/machine"
)

// owing is a stream that owes bytes, more of them than the codecs ever bring at once.
func owing(t *testing.T, owed string) *Stream {
	t.Helper()
	s, e := Open("tscii", "tscii", api.Strict)
	if s == nil || e != 0 {
		t.Fatal(e)
	}
	if _, n, e := s.Feed([]byte("\xb0\xa6"), 16); n != 2 || e != 0 {
		t.Fatal(n, e)
	}
	s.owed = []byte(owed)
	return s
}

func feeds(t *testing.T, s *Stream, in string, room int, out string, n int, e api.Errno) {
	t.Helper()
	if got, k, x := s.Feed([]byte(in), room); string(got) != out || k != n || x != e {
		t.Fatalf("%q fed with room %d: %q, %d, %v, not %q, %d, %v", in, room, got, k, x, out, n, e)
	}
}

func flushes(t *testing.T, s *Stream, room int, out string, e api.Errno) {
	t.Helper()
	if got, x := s.Flush(room); string(got) != out || x != e {
		t.Fatalf("flushed with room %d: %q, %v, not %q, %v", room, got, x, out, e)
	}
}

func TestFeedThatOwesMore(t *testing.T) { // P20.3
	owed := strings.Repeat("0123456789abcdef", 3)
	s := owing(t, owed)
	// Without room nothing is taken.
	feeds(t, s, "xyz", 16, owed[:16], 0, api.ErrSpace)
	feeds(t, s, "xyz", 31, owed[16:47], 0, api.ErrSpace)
	feeds(t, s, "xyz", 16, "f\xa6\xb0xyz", 3, 0)
	flushes(t, s, 16, "", 0)
	s = owing(t, owed)
	feeds(t, s, "xyz", 48, owed, 0, 0)
	s = owing(t, owed)
	feeds(t, s, "xyz", 49, owed+"\xa6", 1, api.ErrSpace)
	feeds(t, s, "", 16, "\xb0x", 0, 0)
}

func TestFlushThatOwesMore(t *testing.T) { // P20.4
	owed := strings.Repeat("0123456789abcdef", 3)
	s := owing(t, owed)
	// The ends come once, whatever is owed.
	flushes(t, s, 16, owed[:16], api.ErrSpace)
	if r, w := s.Held(); r != 0 || w != 0 || s.Owed() != 34 || s.Fault() != (Fault{}) {
		t.Fatal(r, w, s.Owed(), s.Fault())
	}
	// From here on there are no more bytes.
	feeds(t, s, "xyz", 16, "", 0, api.ErrClosed)
	feeds(t, s, "", 15, "", 0, api.ErrClosed)
	flushes(t, s, 15, "", api.ErrArgument)
	flushes(t, s, 33, owed[16:]+"\xa6", api.ErrSpace)
	feeds(t, s, "", 16, "", 0, api.ErrClosed)
	flushes(t, s, 16, "\xb0", 0)
	flushes(t, s, 16, "", api.ErrClosed)
	feeds(t, s, "", 16, "", 0, api.ErrClosed)
	s.Reset()
	if s.Owed() != 0 {
		t.Fatal(s.Owed())
	}
	feeds(t, s, "x", 16, "x", 1, 0)
}

func TestFaultThatOwesMore(t *testing.T) { // P20.3, P20.4
	owed := strings.Repeat("0123456789abcdef", 2)
	s := owing(t, owed)
	feeds(t, s, "\x80xyz", 33, owed+"\xa6", 1, api.ErrSpace)
	// A flush ends nothing behind a fault, but no bytes come after it.
	flushes(t, s, 16, "\xb0", api.ErrMap)
	flushes(t, s, 16, "", api.ErrClosed)
	s = owing(t, owed)
	s.fail(Write, api.Token{At: 7, Err: api.ErrMap})
	feeds(t, s, "xyz", 16, owed[:16], 0, api.ErrSpace)
	if r, w := s.Held(); r != 1 || w != 1 {
		t.Fatal(r, w)
	}
	flushes(t, s, 15, "", api.ErrArgument)
	feeds(t, s, "xyz", 16, owed[16:], 0, api.ErrMap)
	feeds(t, s, "xyz", 16, "", 0, api.ErrClosed)
	s = owing(t, owed)
	s.fail(Write, api.Token{At: 7, Err: api.ErrMap})
	flushes(t, s, 16, owed[:16], api.ErrSpace)
	feeds(t, s, "xyz", 16, "", 0, api.ErrClosed)
	flushes(t, s, 16, owed[16:], api.ErrMap)
	flushes(t, s, 16, "", api.ErrClosed)
	if r, w := s.Held(); r != 1 || w != 1 || s.Fault() != (Fault{Side: Write, At: 7, Err: api.ErrMap}) {
		t.Fatal(r, w, s.Fault())
	}
}

// loud is a machine that has a token at each end, as no codec's has.
type loud struct{ machine.Machine }

func (l loud) End() []api.Token { return []api.Token{{Out: []int{'!'}}} }

func TestTheEndsComeOnce(t *testing.T) { // P20.4
	owed := strings.Repeat("0123456789abcdef", 2)
	s := owing(t, owed)
	s.reader, s.writer = loud{s.reader}, loud{s.writer}
	flushes(t, s, 16, owed[:16], api.ErrSpace)
	flushes(t, s, 16, owed[16:], api.ErrSpace)
	// The reading machine's end is a scalar, for which the one that waits is written, and then there is the writing machine's.
	flushes(t, s, 16, "\xb0!!", 0)
	flushes(t, s, 16, "", api.ErrClosed)
}
