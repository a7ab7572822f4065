package stream_test

import (
	"math"
	"slices"
	"strings"
	"testing"

	"lontar/api"
	"lontar/codec"
	"lontar/iscii"
	"lontar/machine"
	"lontar/stream"
	"lontar/table"
	"lontar/utf"
)

// units are bytes as units.
func units(b string) []int {
	var us []int
	for _, c := range []byte(b) {
		us = append(us, int(c))
	}
	return us
}

// text are units as bytes.
func text(us []int) string {
	var b []byte
	for _, u := range us {
		b = append(b, byte(u))
	}
	return string(b)
}

// wrong is the place of the first token that is wrong; below 0: none is.
func wrong(ts []api.Token) int {
	return slices.IndexFunc(ts, func(x api.Token) bool { return x.Err != 0 })
}

// under is what tokens mean by a policy, with what stands for a wrong one; and the first token that is wrong, if that ends it.
func under(p api.Policy, ts []api.Token, instead int) ([]int, api.Token) {
	var us []int
	for _, x := range ts {
		switch {
		case x.Err != 0 && p == api.Strict:
			return us, x
		case x.Err == 0:
			us = append(us, x.Out...)
		case p == api.Replace:
			us = append(us, instead)
		}
	}
	return us, api.Token{}
}

// result is what became of bytes: what was made, what is wrong, and how much waits on both sides.
type result struct {
	made          string
	f             stream.Fault
	reads, writes int
}

// tables are those of the codecs that have one. Making one takes long.
func tables() map[string]*table.Table {
	m := map[string]*table.Table{}
	for _, name := range codec.Names() {
		if x := codec.Table(name); x != nil {
			m[name] = x
		}
	}
	return m
}

// reader and writer are new machines of a codec.
func reader(known map[string]*table.Table, name string) machine.Machine {
	if x := known[name]; x != nil {
		return machine.Decode(x)
	}
	m, _ := codec.Decode(name)
	return m
}

func writer(known map[string]*table.Table, name string) machine.Machine {
	if x := known[name]; x != nil {
		return machine.Encode(x)
	}
	m, _ := codec.Encode(name)
	return m
}

// becomes is the result of bytes that came, and of their end, if it came: first all tokens are read, then all scalars are written.
func becomes(dec, enc machine.Machine, p api.Policy, came string, end bool) result {
	var in, out []api.Token
	for _, u := range units(came) {
		in = append(in, dec.Put(u)...)
	}
	if end {
		in = append(in, dec.End()...)
	}
	scalars, bad := under(p, in, api.Bad)
	for k := 0; k < len(scalars) && (p != api.Strict || wrong(out) < 0); k++ {
		out = append(out, enc.Put(scalars[k])...)
	}
	if (end || bad.Err != 0) && (p != api.Strict || wrong(out) < 0) {
		out = append(out, enc.End()...)
	}
	r := result{reads: dec.Held(), writes: enc.Held()}
	us, worse := under(p, out, '?')
	r.made = text(us)
	switch {
	case worse.Err != 0:
		r.f = stream.Fault{Side: stream.Write, At: worse.At, Err: worse.Err}
	case bad.Err != 0:
		r.f = stream.Fault{Side: stream.Read, At: bad.At, Err: bad.Err}
	}
	return r
}

// model is a stream that has all bytes that came, and how many it paid. It works out anew what became of them whenever it is asked.
type model struct {
	from, to string
	p        api.Policy
	came     string
	paid     int
	end      bool // the ends came
	flushed  bool
	closed   bool
	tables   map[string]*table.Table
	known    map[string]result // what was worked out before, because it takes long
}

func modelled(from, to string, p api.Policy, known map[string]*table.Table) *model {
	return &model{from: from, to: to, p: p, tables: known, known: map[string]result{}}
}

func (m *model) now() result {
	key := m.came
	if m.end {
		key += " and no more"
	}
	r, ok := m.known[key]
	if !ok {
		r = becomes(reader(m.tables, m.from), writer(m.tables, m.to), m.p, m.came, m.end)
		m.known[key] = r
	}
	return r
}

func (m *model) owed() int { return len(m.now().made) - m.paid }

func (m *model) pay(room int) (string, api.Errno) {
	r := m.now()
	out := r.made[m.paid:]
	out = out[:min(room, len(out))]
	m.paid += len(out)
	if m.paid < len(r.made) {
		return out, api.ErrSpace
	}
	m.closed = m.closed || r.f.Err != 0
	return out, r.f.Err
}

func (m *model) feed(b string, room int) (string, int, api.Errno) {
	if m.closed || m.flushed {
		return "", 0, api.ErrClosed
	}
	if room < 16 {
		return "", 0, api.ErrArgument
	}
	n := 0
	for n < len(b) && m.owed() < room && m.now().f.Err == 0 {
		m.came += b[n : n+1]
		n++
	}
	out, e := m.pay(room)
	return out, n, e
}

func (m *model) flush(room int) (string, api.Errno) {
	if m.closed {
		return "", api.ErrClosed
	}
	if room < 16 {
		return "", api.ErrArgument
	}
	m.end = m.end || !m.flushed && m.now().f.Err == 0
	m.flushed = true
	out, e := m.pay(room)
	m.closed = m.closed || e == 0
	return out, e
}

func (m *model) reset() {
	m.came, m.paid, m.end, m.flushed, m.closed = "", 0, false, false, false
}

// call is a call of a stream: of Feed, or with '.' of Flush, or with '!' of Reset.
type call struct {
	kind byte
	in   string
	room int
}

// beside does a call of a stream and of its model, and holds them against each other.
func beside(t *testing.T, s *stream.Stream, m *model, x call) {
	t.Helper()
	out, want := "", ""
	n, k := 0, 0
	var e, told api.Errno
	switch x.kind {
	case '.':
		b, y := s.Flush(x.room)
		out, e = string(b), y
		want, told = m.flush(x.room)
	case '!':
		s.Reset()
		m.reset()
	default:
		b, j, y := s.Feed([]byte(x.in), x.room)
		out, n, e = string(b), j, y
		want, k, told = m.feed(x.in, x.room)
	}
	if out != want || n != k || e != told {
		t.Fatalf("%s to %s, %d: %q of %q, room %d: %q, %d, %v, not %q, %d, %v", m.from, m.to, m.p, x.in, m.came, x.room, out, n, e, want, k, told)
	}
	r := m.now()
	stands(t, s, r.f, r.reads, r.writes, m.owed())
}

// feeding are calls of Feed.
func feeding(room int, ins ...string) []call {
	var xs []call
	for _, in := range ins {
		xs = append(xs, call{in: in, room: room})
	}
	return xs
}

// rows are all rows of n calls.
func rows(n int, from []call) [][]call {
	all := [][]call{nil}
	for range n {
		var longer [][]call
		for _, xs := range all {
			for _, x := range from {
				longer = append(longer, append(slices.Clone(xs), x))
			}
		}
		all = longer
	}
	return all
}

func TestEveryRowOfCalls(t *testing.T) { // P20.1 to P20.4
	t.Parallel()
	known := tables()
	common := []call{{kind: '.', room: 16}, {kind: '.', room: 15}, {kind: '!'}, {in: "a", room: 15}, {in: "", room: 16}}
	for _, x := range []struct {
		from, to string
		n        int
		calls    []call
	}{
		{"utf-8", "utf-8", 4, feeding(16, "\xe0", "\xb8\x81", "\xffz", "\u0e01\u0e01\u0e01\u0e01\u0e01\u0e01\u0e01", "aaaaaaaaaaaaaaaaa")},
		{"utf-8", "ascii", 3, feeding(17, "\xe0", "\xb8\x81", "\xffz", "aaaaaaaaaaaaaa", "a\xf0\x9f", "\x98\x80")},
		{"ascii", "utf-8", 3, feeding(16, "a", "a\x80a", "aaaaaaaaaaaaaaaa")},
		{"utf-8", "iscii", 3, feeding(16, "\u094d", "\u094d\u094d\u0995", "\u0915", "\u093c\xe0", "\xff", "\u0985\u0905\u0985\u0905\u0985\u0905\u0985\u0905\u0985\u0905\u0985")},
		{"iscii", "utf-8", 3, feeding(16, "\xe8", "\xe9", "\xefC", "\xb3", "\xef", "\xb3\xb3\xb3\xb3\xb3\xb3")},
		{"tscii", "utf-8", 3, feeding(16, "\xa6\xb0", "\xaa", "\x80", "\xaa\xaa\xaa\xaa\xaa\xa6\xb0\x80", "\xd0\xd0\xaa\xa7\xb0")},
		{"iscii", "tscii", 3, feeding(16, "\xefD", "\xb3\xe8", "\xe9", "\xe0\xb3\xb3", "\xff")},
		{"tscii", "iscii", 3, feeding(16, "\xd0", "\xd0\xd0\xd0\xd0\xd0\xd0\xd0", "\xa6", "\x80", "\xa9\xa9")},
	} {
		for _, p := range policies() {
			t.Run(x.from+" to "+x.to, func(t *testing.T) {
				t.Parallel()
				m := modelled(x.from, x.to, p, known)
				for _, xs := range rows(x.n, append(slices.Clone(common), x.calls...)) {
					s := open(t, x.from, x.to, p)
					m.reset()
					for _, y := range xs {
						beside(t, s, m, y)
					}
				}
			})
		}
	}
}

// rolls are numbers that look like none in particular, always the same ones.
func rolls(seed uint32) func(n int) int {
	return func(n int) int {
		seed = seed*1664525 + 1013904223
		return int(seed>>8) % n
	}
}

// pieces are bytes of some weight in a codec.
func pieces(name string) []string {
	switch name {
	case "utf-8":
		return []string{"a", "e", "\u1ebf", "\u00e1", "\u0e01", "\u0e3b", "\u0b95", "\u0bc6", "\u0bbe", "\u0bcd", "\u0915", "\u093c", "\u094d", "\u0995", "\u09cd", "\u200c", "\u0964", "\ufffd", "\U0001f600", "\xe0", "\xb8", "\xff", "\xf0\x9f"}
	case "ascii":
		return []string{"a", "e", "\x00", "\x7f", "zzzz", "\x80"}
	case "viscii":
		return []string{"a", "\xaa", "\x02", "\xff", "\xe1"}
	case "tcvn3":
		return []string{"a", "\xd5", "\xb8", "\xa1", "\xba"}
	case "vni":
		return []string{"a", "e", "e\xe1", "\xe1", "\xf4", "\xf4\xfb", "o\xf8", "D", "\xf8"}
	case "tis-620":
		return []string{"a", "\xa1", "\xe8", "\xdf", "\xa1\xa1\xa1", "\xdb"}
	case "tscii":
		return []string{"a", "\x91", "\xa6", "\xa7", "\xa9", "\xaa", "\xaf", "\xb0", "\xd0", "\xa6\xb0", "\xa7\xb0\xaa", "\x80"}
	}
	return []string{"a", "B", "\xa4", "\xb3", "\xe8", "\xe9", "\xd9", "\xea", "\xef", "\xefC", "\xefD", "\xf0", "\xb8", "\xff"}
}

// roomy are rooms near the least one, and others.
func roomy(roll func(n int) int) int {
	return []int{16, 16, 16, 17, 18, 19, 23, 32, 1 << 10, math.MaxInt}[roll(10)]
}

func TestManyCalls(t *testing.T) { // P20.1 to P20.4, T4
	roll := rolls(20)
	known := tables()
	for _, from := range codec.Names() {
		for _, to := range codec.Names() {
			for _, p := range policies() {
				s := open(t, from, to, p)
				m := modelled(from, to, p, known)
				for range 30 {
					in := ""
					for range roll(14) {
						in += pieces(from)[roll(len(pieces(from)))]
					}
					x := call{in: in, room: roomy(roll)}
					switch roll(12) {
					case 0:
						x.kind = '.'
					case 1:
						x.kind = '!'
					case 2:
						x.room = roll(16)
					}
					if m.closed && roll(3) > 0 {
						x.kind = '!'
					}
					beside(t, s, m, x)
				}
			}
		}
	}
}

// readWhole and writeWhole rewrite all that there is at once, from left to right.
func readWhole(x *table.Table, name, in string) []api.Token {
	switch name {
	case "utf-8":
		return utf.All([]byte(in))
	case "iscii":
		return machine.All(iscii.Decode(), units(in))
	}
	return x.Decode(units(in))
}

func writeWhole(x *table.Table, name string, us []int) []api.Token {
	switch name {
	case "utf-8":
		var ts []api.Token
		for k, u := range us {
			ts = append(ts, api.Token{At: k, Len: 1, Out: units(string(rune(u)))})
		}
		return ts
	case "iscii":
		return machine.All(iscii.Encode(), us)
	}
	return x.Encode(us)
}

// whole is what becomes of all bytes at once.
func whole(known map[string]*table.Table, from, to string, p api.Policy, in string) (string, stream.Fault) {
	us, bad := under(p, readWhole(known[from], from, in), api.Bad)
	bs, worse := under(p, writeWhole(known[to], to, us), '?')
	switch {
	case worse.Err != 0:
		return text(bs), stream.Fault{Side: stream.Write, At: worse.At, Err: worse.Err}
	case bad.Err != 0:
		return text(bs), stream.Fault{Side: stream.Read, At: bad.At, Err: bad.Err}
	}
	return text(bs), stream.Fault{}
}

// drive has bytes go through a stream in parts, with little room: what comes out, and the last error. It holds that each call goes on, and that little is owed.
func drive(t *testing.T, s *stream.Stream, in string, part, room func() int) (string, api.Errno) {
	t.Helper()
	out := ""
	for len(in) > 0 {
		size, most := min(part(), len(in)), room()
		got, n, e := s.Feed([]byte(in[:size]), most)
		if n > size || len(got) > most || size > 0 && n+len(got) == 0 && s.Fault() == fine() && s.Owed() > 0 || s.Owed() >= api.Least {
			t.Fatalf("%q with room %d: %q, %d, owed %d", in[:size], most, got, n, s.Owed())
		}
		if (e == api.ErrSpace) != (s.Owed() > 0) || e == 0 && s.Fault() != fine() || e == 0 && n < size && len(got) < most {
			t.Fatalf("%q with room %d: %q, %d, %v, owed %d", in[:size], most, got, n, e, s.Owed())
		}
		out += string(got)
		in = in[n:]
		if e != 0 && e != api.ErrSpace {
			return out, e
		}
	}
	for range 8 {
		got, e := s.Flush(room())
		out += string(got)
		if e != api.ErrSpace {
			return out, e
		}
	}
	t.Fatal("too much is owed")
	return "", 0
}

// always is a number, each time.
func always(n int) func() int { return func() int { return n } }

func TestInWhateverParts(t *testing.T) { // T1, T4: P20.2 to P20.5
	roll := rolls(1)
	known := tables()
	for _, from := range codec.Names() {
		for _, to := range codec.Names() {
			for _, p := range policies() {
				for range 4 {
					in := strings.Repeat("z", roll(17))
					for range 1 + roll(40) {
						// Few are wrong, because behind the first one there is nothing more.
						k := roll(len(pieces(from)))
						if p == api.Strict && roll(3) > 0 {
							k = roll(3)
						}
						in += pieces(from)[k]
					}
					want, f := whole(known, from, to, p, in)
					if out, fault := all(t, from, to, p, in); out != want || fault != f {
						t.Fatalf("%s to %s, %d: %q is %q, %v, not %q, %v", from, to, p, in, out, fault, want, f)
					}
					s := open(t, from, to, p)
					for _, x := range []struct{ part, room func() int }{
						{always(1), always(16)},
						{always(1 << 20), always(16)},
						{func() int { return roll(6) }, func() int { return roomy(roll) }},
					} {
						out, e := drive(t, s, in, x.part, x.room)
						if out != want || s.Fault() != f || e != f.Err {
							t.Fatalf("%s to %s, %d: %q is %q, %v, not %q, %v", from, to, p, in, out, s.Fault(), want, f)
						}
						ended(t, s)
						s.Reset()
					}
				}
			}
		}
	}
}

// partings are all ways to part n bytes, as the sizes of the parts.
func partings(n int) [][]int {
	if n == 0 {
		return [][]int{nil}
	}
	var all [][]int
	for first := 1; first <= n; first++ {
		for _, rest := range partings(n - first) {
			all = append(all, append([]int{first}, rest...))
		}
	}
	return all
}

func TestEveryParting(t *testing.T) { // T1: P20.2 to P20.4
	known := tables()
	for _, x := range []struct{ from, to, in string }{
		{"utf-8", "iscii", "\u094d\u094d\u0995"},
		{"utf-8", "vni", "\u1ebf\xe1\xbaz"},
		{"vni", "utf-8", "e\xe1o\xf8\xf4\xfb"},
		{"tscii", "utf-8", "\xaa\xaa\xaa\xaa\xa7\xb0\xa7\xb0"},
		{"tscii", "iscii", "\xd0\xa6\xb0\x80\xa6"},
		{"iscii", "utf-8", "\xb3\xe8\xe9\xefC\xb3\xe9"},
	} {
		for _, p := range policies() {
			want, f := whole(known, x.from, x.to, p, x.in)
			s := open(t, x.from, x.to, p)
			for _, sizes := range partings(len(x.in)) {
				k := 0
				// The first part is left when it was taken whole.
				next := func() int { k++; return sizes[min(k, len(sizes))-1] }
				out, e := drive(t, s, x.in, next, always(16))
				if out != want || s.Fault() != f || e != f.Err {
					t.Fatalf("%s to %s, %d: %q in %v is %q, %v, not %q, %v", x.from, x.to, p, x.in, sizes, out, s.Fault(), want, f)
				}
				s.Reset()
			}
		}
	}
}

func TestWhatIsWrittenIsReadAsItWas(t *testing.T) { // T2, T3
	roll := rolls(3)
	for _, from := range codec.Names() {
		n := 0
		for range 120 {
			in := ""
			for range 1 + roll(7) {
				in += pieces(from)[roll(len(pieces(from)))]
			}
			plain, f := all(t, from, "utf-8", api.Strict, in)
			if f != fine() {
				continue
			}
			back, f := all(t, "utf-8", from, api.Strict, plain)
			if f != fine() {
				continue
			}
			n++
			again, f := all(t, from, "utf-8", api.Strict, back)
			if again != plain || f != fine() {
				t.Fatalf("%s: %q is %q, written as %q, read as %q, %v", from, in, plain, back, again, f)
			}
			if twice, f := all(t, from, from, api.Strict, back); twice != back || f != fine() {
				t.Fatalf("%s: %q is %q, %v", from, back, twice, f)
			}
		}
		if n < 20 {
			t.Error(from, n)
		}
	}
}

func TestALongText(t *testing.T) { // W1, T1, T4
	const size = 1 << 18
	in := strings.Repeat("Ti\xaang Vi\xaet ", size/12)
	want := strings.Repeat("Ti\u1ebfng Vi\u1ec7t ", size/12)
	if out, f := all(t, "viscii", "utf-8", api.Strict, in); out != want || f != fine() {
		t.Fatal(len(out), f)
	}
	s := open(t, "viscii", "utf-8", api.Strict)
	out := make([]byte, 0, len(want))
	for left := in; len(left) > 0; {
		got, n, e := s.Feed([]byte(left[:min(40, len(left))]), 16)
		if e != 0 && e != api.ErrSpace || n == 0 {
			t.Fatal(len(left), n, e)
		}
		out = append(out, got...)
		left = left[n:]
	}
	for e := api.ErrSpace; e == api.ErrSpace; {
		var got []byte
		got, e = s.Flush(16)
		out = append(out, got...)
	}
	if string(out) != want {
		t.Fatal(len(out))
	}
	// What is wrong far from the beginning.
	far := strings.Repeat("\u1ebf", size)
	if out, f := all(t, "utf-8", "viscii", api.Strict, far+"\u0e01"); len(out) != size || f != write(size) {
		t.Error(len(out), f)
	}
	if out, f := all(t, "utf-8", "viscii", api.Strict, far+"\xe0"); len(out) != size || f != read(3*size, api.ErrShort) {
		t.Error(len(out), f)
	}
}
