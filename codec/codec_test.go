package codec_test

import (
	"math"
	"slices"
	"strings"
	"testing"

	"lontar/api"
	"lontar/carry"
	"lontar/codec"
	"lontar/indic"
	"lontar/iscii"
	"lontar/machine"
	"lontar/rewrite"
	"lontar/rule"
	"lontar/table"
	"lontar/tamil"
	"lontar/tcvn"
	"lontar/thai"
	"lontar/trie"
	"lontar/viscii"
	"lontar/vni"
)

func units(us ...int) []int { return us }

// good is a token of a rule, bad one of a unit that is not mapped.
func good(at, size int, out ...int) api.Token { return api.Token{At: at, Len: size, Out: out} }

func bad(at int) api.Token { return api.Token{At: at, Len: 1, Err: api.ErrMap} }

func sameToken(a, b api.Token) bool {
	return a.At == b.At && a.Len == b.Len && a.Err == b.Err && slices.Equal(a.Out, b.Out)
}

func same(a, b []api.Token) bool { return slices.EqualFunc(a, b, sameToken) }

func tokens(t *testing.T, got []api.Token, want ...api.Token) {
	t.Helper()
	if !same(got, want) {
		t.Fatalf("tokens %x, not %x", got, want)
	}
}

// held holds how many units wait; asking twice must not change it.
func held(t *testing.T, m machine.Machine, want int) {
	t.Helper()
	for range 2 {
		if m.Held() != want {
			t.Fatal(m.Held(), "wait, not", want)
		}
	}
}

// end stands among units for a call of End.
const end = math.MinInt + 1

func step(m machine.Machine, u int) []api.Token {
	if u == end {
		return m.End()
	}
	return m.Put(u)
}

// run is the tokens of all steps.
func run(m machine.Machine, us ...int) []api.Token {
	var ts []api.Token
	for _, u := range us {
		ts = append(ts, step(m, u)...)
	}
	return ts
}

// reading and writing are the machines of a name that is known.
func reading(t *testing.T, name string) machine.Machine {
	t.Helper()
	m, e := codec.Decode(name)
	if m == nil || e != 0 {
		t.Fatalf("%q is read: %v", name, e)
	}
	return m
}

func writing(t *testing.T, name string) machine.Machine {
	t.Helper()
	m, e := codec.Encode(name)
	if m == nil || e != 0 {
		t.Fatalf("%q is written: %v", name, e)
	}
	return m
}

// of is the table of rules that may be one.
func of(t *testing.T, rs []api.Rule) *table.Table {
	t.Helper()
	x, e := table.Of(rs)
	if x == nil || e != 0 {
		t.Fatal(len(rs), "rules:", e)
	}
	return x
}

// names are the codecs, as P19.1 has them; tabled are those of them that have a table.
func names() []string {
	return []string{"utf-8", "ascii", "viscii", "tcvn3", "vni", "tis-620", "tscii", "iscii"}
}

func tabled() []string {
	return []string{"ascii", "viscii", "tcvn3", "vni", "tis-620", "tscii"}
}

// known are all names, in small letters, and the codecs that they mean.
func known() map[string]string {
	return map[string]string{
		"utf-8": "utf-8", "utf8": "utf-8",
		"ascii": "ascii", "us-ascii": "ascii",
		"viscii": "viscii", "viscii1.1-1": "viscii",
		"tcvn3": "tcvn3", "tcvn": "tcvn3", "abc": "tcvn3",
		"vni": "vni", "vni-win": "vni",
		"tis-620": "tis-620", "tis620": "tis-620", "iso-8859-11": "tis-620",
		"tscii": "tscii",
		"iscii": "iscii", "iscii-91": "iscii",
	}
}

// rules are what P19.2 says of the codecs that have a table.
func rules(name string) []api.Rule {
	var rs []api.Rule
	switch name {
	case "ascii":
		for c := range 128 {
			rs = append(rs, api.Rule{In: units(c), Out: units(c)})
		}
	case "tis-620":
		for c := range 256 {
			if s, ok := thai.Decode(byte(c)); ok {
				rs = append(rs, api.Rule{In: units(c), Out: units(s)})
			}
		}
	case "viscii":
		rs = viscii.Rules()
	case "tcvn3":
		rs = tcvn.Rules()
	case "vni":
		rs = vni.Rules()
	case "tscii":
		rs = tamil.Rules()
	}
	return rs
}

func TestNames(t *testing.T) { // P19.1, W6
	for range 2 {
		got := codec.Names()
		if !slices.Equal(got, names()) {
			t.Fatal(got)
		}
		// What becomes of these is nobody else's matter.
		clear(got)
		_ = append(got, "x")
	}
	if s, e := codec.Name("vni"); s != "vni" || e != 0 || codec.Table("vni") == nil {
		t.Error(s, e)
	}
}

// meant holds which codec a name means, if any.
func meant(t *testing.T, name, want string) {
	t.Helper()
	fault := api.Errno(0)
	if want == "" {
		fault = api.ErrUnknown
	}
	if got, e := codec.Name(name); got != want || e != fault {
		t.Errorf("%q means %q, %v, not %q", name, got, e, want)
	}
}

// machines holds that a name has machines, or that it has none.
func machines(t *testing.T, name string, ok bool) {
	t.Helper()
	fault := api.Errno(0)
	if !ok {
		fault = api.ErrUnknown
	}
	if m, e := codec.Decode(name); (m != nil) != ok || e != fault {
		t.Errorf("%q is read by %v: %v", name, m, e)
	}
	if m, e := codec.Encode(name); (m != nil) != ok || e != fault {
		t.Errorf("%q is written by %v: %v", name, m, e)
	}
}

func TestName(t *testing.T) { // P19.1, P19.3
	for name, want := range known() {
		for _, word := range []string{name, strings.ToUpper(name), strings.ToUpper(name[:1]) + name[1:], name[:1] + strings.ToUpper(name[1:])} {
			meant(t, word, want)
			machines(t, word, true)
		}
	}
	// The example.
	meant(t, "ABC", "tcvn3")
	// A great I with a dot has a small i without any mark.
	meant(t, "T\u0130S-620", "tis-620")
	meant(t, "\u0130sc\u0130i-91", "iscii")
	machines(t, "vn\u0130", true)
}

func TestNameOfNone(t *testing.T) { // P19.1, P19.3, W1, W3
	for _, name := range []string{
		"", " ", "-", "\x00", "x", "none", "utf", "utf-", "utf-16", "utf_8", "utf 8", " utf-8", "utf-8 ", "utf-8\n", "\x00utf-8", "utf-8\x00", "\ufeffutf-8",
		"us", "usascii", "us_ascii", "us-ascii-1", "ascii8", "viscii1.1", "viscii1", "viscii-1.1-1", "viscii1.1-2", "tcvn-3", "tcvn2", "tcvn 3", "abcd", "abc3", "ab",
		"vni-", "vniwin", "vni-mac", "tis", "tis_620", "tis-6200", "tis-62", "iso-8859", "iso-8859-1", "iso8859-11", "iso_8859-11", "iso-8859-11-1",
		"tscii2", "tscii1.7", "tamil", "iscii91", "iscii-", "iscii-9", "iscii-92", "thai", "indic", "utf-8,ascii", "ascii\nvni", "latin1",
		"\xff", "utf-8\xff", "ascii\x80", "\xc0\xa1scii", "\u0131scii", "t\u017fcii", "\uff41bc", "\u0430bc", "i\u0307scii", "utf\u20118", "tis\u2212620", "\u0663",
	} {
		meant(t, name, "")
		machines(t, name, false)
	}
	long := strings.Repeat("utf-8", 1<<18)
	meant(t, long, "")
	machines(t, long, false)
	meant(t, strings.Repeat("\u0130", 1<<18), "")
}

// near are words that differ from a name in one place: by a letter less, one more, or another one.
func near(name, letters string) []string {
	var words []string
	for k := range len(name) + 1 {
		if k < len(name) {
			words = append(words, name[:k]+name[k+1:])
		}
		for _, r := range letters {
			words = append(words, name[:k]+string(r)+name[k:])
			if k < len(name) {
				words = append(words, name[:k]+string(r)+name[k+1:])
			}
		}
	}
	return words
}

func TestEveryNameThatIsNear(t *testing.T) { // P19.1
	var letters strings.Builder
	for c := range 0x250 {
		letters.WriteRune(rune(c))
	}
	letters.WriteString("\u0430\u0456\u2010\u2011\u2212\u2126\u212a\u212b\uff10\uff41\ufffd\U0001d41a")
	for name := range known() {
		for _, word := range near(name, letters.String()) {
			meant(t, word, known()[strings.ToLower(word)])
		}
	}
}

// stands holds that a table has the rules given, as their numbers in both tries, and no others.
func stands(t *testing.T, x *table.Table, rs []api.Rule) {
	t.Helper()
	turned := rule.Turn(rs)
	if in, out := x.Longest(); in != rule.Longest(rs) || out != rule.Longest(turned) {
		t.Error("the longest are", in, out)
	}
	for _, y := range []struct {
		got   *trie.Trie
		rules []api.Rule
	}{{x.Read(), rs}, {x.Write(), turned}} {
		for k, r := range y.rules {
			if got, n, _ := y.got.Longest(r.In); got != k || n != len(r.In) || !slices.Equal(y.got.Out(k), r.Out) {
				t.Fatalf("rule %d is %d, %d, %x, not %x", k, got, n, y.got.Out(k), r)
			}
		}
		want, e := trie.Of(y.rules)
		if e != 0 || y.got.Size() != want.Size() || y.got.Out(len(y.rules)) != nil {
			t.Fatal(y.got.Size(), "nodes:", e)
		}
	}
}

func TestTables(t *testing.T) { // P19.2
	sizes := map[string]int{"ascii": 128, "viscii": 256, "tcvn3": 202, "vni": 262, "tis-620": 215, "tscii": 327}
	for _, name := range tabled() {
		x := codec.Table(name)
		if x == nil {
			t.Fatal(name, "has no table")
		}
		rs := rules(name)
		if len(rs) != sizes[name] {
			t.Fatal(name, "has", len(rs), "rules")
		}
		stands(t, x, rs)
		want := of(t, rs)
		for u := -2; u < 0x10fff0; u++ {
			if got := x.Encode(units(u)); !same(got, want.Encode(units(u))) {
				t.Fatalf("%s: %x is written as %x", name, u, got)
			}
		}
		for a := -1; a <= 0x100; a++ {
			for b := -1; b <= 0x100; b++ {
				if got := x.Decode(units(a, b, 0xaa)); !same(got, want.Decode(units(a, b, 0xaa))) {
					t.Fatalf("%s: %x %x is read as %x", name, a, b, got)
				}
			}
		}
	}
}

func TestTablesByHand(t *testing.T) { // P19.2
	for _, y := range []struct {
		name string
		in   int
		ts   []api.Token
	}{
		{"ascii", 0, []api.Token{good(0, 1, 0)}},
		{"ascii", 0x7f, []api.Token{good(0, 1, 0x7f)}},
		{"ascii", 0x80, []api.Token{bad(0)}},
		{"ascii", 0xff, []api.Token{bad(0)}},
		{"ascii", -1, []api.Token{bad(0)}},
		{"ascii", 0x141, []api.Token{bad(0)}},
		{"tis-620", 0, []api.Token{good(0, 1, 0)}},
		{"tis-620", 0x7f, []api.Token{good(0, 1, 0x7f)}},
		{"tis-620", 0x80, []api.Token{bad(0)}},
		{"tis-620", 0xa0, []api.Token{bad(0)}},
		{"tis-620", 0xa1, []api.Token{good(0, 1, 0xe01)}},
		{"tis-620", 0xda, []api.Token{good(0, 1, 0xe3a)}},
		{"tis-620", 0xdb, []api.Token{bad(0)}},
		{"tis-620", 0xdf, []api.Token{good(0, 1, 0xe3f)}},
		{"tis-620", 0xfb, []api.Token{good(0, 1, 0xe5b)}},
		{"tis-620", 0xfc, []api.Token{bad(0)}},
		{"tis-620", 0x1a1, []api.Token{bad(0)}},
		{"viscii", 0x80, []api.Token{good(0, 1, 0x1ea0)}},
		{"viscii", 2, []api.Token{good(0, 1, 0x1eb2)}},
		{"tcvn3", 0xb8, []api.Token{good(0, 1, 0xe1)}},
		{"tcvn3", 0xba, []api.Token{bad(0)}},
		{"vni", 0xf4, []api.Token{good(0, 1, 0x1a1)}},
		{"vni", 0xf8, []api.Token{bad(0)}},
		{"tscii", 0xb0, []api.Token{good(0, 1, 0xb95)}},
		{"tscii", 0x80, []api.Token{bad(0)}},
	} {
		x := codec.Table(y.name)
		if got := x.Decode(units(y.in)); !same(got, y.ts) {
			t.Errorf("%s: %x is read as %x", y.name, y.in, got)
		}
		tokens(t, run(reading(t, y.name), y.in, end), y.ts...)
	}
}

func TestNoTable(t *testing.T) { // P19.2: only the names themselves have one
	for name := range known() {
		for _, word := range []string{name, strings.ToUpper(name), " " + name, name + "\x00"} {
			if got := codec.Table(word) != nil; got != slices.Contains(tabled(), word) {
				t.Errorf("%q: %v", word, got)
			}
		}
	}
	for _, name := range []string{"", "x", "utf-8", "iscii", "utf8", "abc", "tcvn", "Vni", "VISCII", "us-ascii", "vni-win", "tis620", "iso-8859-11", "iscii-91", "vn\u0130", "\xff"} {
		if codec.Table(name) != nil {
			t.Errorf("%q has a table", name)
		}
	}
}

// unlike are units that are no bytes, and bytes in their lowest bits.
func unlike() []int {
	return units(-1, -0x80, -0x100, -0xff, 0x100, 0x141, 0x180, 0x1a1, 0xff41, 0x10ff41, 1<<32|0x41, 1<<32|0xe1, math.MaxInt, math.MaxInt-0x7f, math.MinInt, math.MinInt+0x41, math.MinInt+0xe1)
}

func TestReadUTF8ByName(t *testing.T) { // P19.3
	m := reading(t, "utf-8")
	held(t, m, 0)
	tokens(t, m.End())
	tokens(t, m.Put('a'), good(0, 1, 'a'))
	tokens(t, m.Put(0xe0))
	held(t, m, 1)
	tokens(t, m.Put(0xb8))
	held(t, m, 2)
	tokens(t, m.Put(0x81), good(1, 3, 0xe01))
	held(t, m, 0)
	// Only the eight lowest bits count.
	tokens(t, run(m, 0x1e0, -0x48, math.MinInt+0x81), good(4, 3, 0xe01))
	tokens(t, m.Put(0x10041), good(7, 1, 'A'))
	tokens(t, m.Put(-1), api.Token{At: 8, Len: 1, Err: api.ErrForm})
	tokens(t, m.Put(math.MaxInt), api.Token{At: 9, Len: 1, Err: api.ErrForm})
	tokens(t, m.Put(math.MinInt), good(10, 1, 0))
	tokens(t, run(m, 0xe1, 0x80, 'A'), api.Token{At: 11, Len: 2, Err: api.ErrForm}, good(13, 1, 'A'))
	tokens(t, run(m, 0xf0, 0x9f, 0x98, 0x80), good(14, 4, 0x1f600))
	// After an end bytes follow, and At goes on.
	tokens(t, run(m, 0xf0, 0x9f, 0x98))
	held(t, m, 3)
	tokens(t, m.End(), api.Token{At: 18, Len: 3, Err: api.ErrShort})
	held(t, m, 0)
	tokens(t, m.End())
	tokens(t, m.Put('z'), good(21, 1, 'z'))
}

// beside holds two machines against each other, step by step.
func beside(t *testing.T, got, want machine.Machine) func(us []int) {
	t.Helper()
	return func(us []int) {
		t.Helper()
		for k, u := range us {
			if x, y := step(got, u), step(want, u); !same(x, y) {
				t.Fatalf("step %d of %x is %x, not %x", k, us, x, y)
			}
			held(t, got, want.Held())
		}
	}
}

// rows are all rows of exactly n of the units given.
func rows(n int, from ...int) [][]int {
	all := [][]int{nil}
	for range n {
		var longer [][]int
		for _, us := range all {
			for _, u := range from {
				longer = append(longer, append(slices.Clone(us), u))
			}
		}
		all = longer
	}
	return all
}

// utf8 does what P19.3 says of reading UTF-8, word for word.
type utf8 struct{ r carry.Reader }

func (x *utf8) Put(u int) []api.Token { return x.r.Put(byte(((u % 256) + 256) % 256)) }
func (x *utf8) End() []api.Token      { return x.r.End() }
func (x *utf8) Held() int             { return x.r.Held() }

func TestReadUTF8(t *testing.T) { // P19.3
	steps := units('a', 0x80, 0xbf, 0xc3, 0xe0, 0xa0, 0xed, 0xf4, 0xff, -0x80, 0x1e1, end)
	for _, us := range rows(3, steps...) {
		beside(t, reading(t, "utf-8"), &utf8{})(us)
	}
	hold := beside(t, reading(t, "UTF8"), &utf8{})
	for _, us := range rows(4, steps...) {
		hold(us)
	}
	hold(unlike())
	for a := -0x200; a < 0x300; a++ {
		hold(units(a, 0x80, end, a))
	}
}

func TestWriteUTF8ByName(t *testing.T) { // P19.3
	m := writing(t, "utf-8")
	held(t, m, 0)
	tokens(t, m.End())
	tokens(t, m.Put(0), good(0, 1, 0))
	tokens(t, m.Put(0x7f), good(1, 1, 0x7f))
	tokens(t, m.Put(0x80), good(2, 1, 0xc2, 0x80))
	tokens(t, m.Put(0x7ff), good(3, 1, 0xdf, 0xbf))
	tokens(t, m.Put(0xe01), good(4, 1, 0xe0, 0xb8, 0x81))
	tokens(t, m.Put(0xffff), good(5, 1, 0xef, 0xbf, 0xbf))
	tokens(t, m.Put(0x10ffff), good(6, 1, 0xf4, 0x8f, 0xbf, 0xbf))
	held(t, m, 0)
	// What is no scalar counts as well, and Bad itself is one.
	tokens(t, run(m, 0xd800, 0xdfff, 0x110000, -1), bad(7), bad(8), bad(9), bad(10))
	tokens(t, m.Put(0xfffd), good(11, 1, 0xef, 0xbf, 0xbd))
	// No end starts again.
	tokens(t, m.End())
	tokens(t, m.End())
	held(t, m, 0)
	tokens(t, m.Put(0xd7ff), good(12, 1, 0xed, 0x9f, 0xbf))
	for k, u := range units(math.MinInt, math.MaxInt, 1<<32|0x41, 1<<63-1<<32+0x41, -0x80, math.MinInt+0x41) {
		tokens(t, m.Put(u), bad(13+k))
	}
}

func TestWriteUTF8(t *testing.T) { // P19.3
	m := writing(t, "utf8")
	for at := range 0x118000 {
		u := at - 0x4000
		want := bad(at)
		if u >= 0 && u < 0xd800 || u > 0xdfff && u <= 0x10ffff {
			want = good(at, 1)
			for _, c := range []byte(string(rune(u))) {
				want.Out = append(want.Out, int(c))
			}
		}
		if got := m.Put(u); len(got) != 1 || !sameToken(got[0], want) {
			t.Fatalf("%x is written as %x", u, got)
		}
		if m.Held() != 0 || len(m.End()) != 0 {
			t.Fatalf("%x waits", u)
		}
	}
}

// steps are bytes that are of some weight in a codec, and scalars: those of letters, of signs, and of none.
func steps() ([]int, []int) {
	in := units('a', 'o', 0x02, 0x7f, 0x80, 0xa1, 0xa6, 0xa7, 0xaa, 0xaf, 0xb0, 0xd0, 0xd4, 0xe1, 0xe8, 0xe9, 0xef, 0x43, 0xf4, 0xf8, 0xff, 0x1b0, -1, end)
	out := units('a', 'o', 0x02, 0xe1, 0xe8, 0x1a1, 0x1ebf, 0x1eb2, 0xe01, 0xe3b, 0xb95, 0xbc6, 0xbca, 0xbcd, 0xbbe, 0x915, 0x94d, 0x93c, 0x995, 0x200c, 0x964, 0xfffd, -1, end)
	return in, out
}

// pair are two machines that must be the same: that of a name, and that of the words of P19.3.
type pair struct{ got, want func() machine.Machine }

func pairs(t *testing.T, name, as string) (pair, pair) {
	t.Helper()
	read := pair{got: func() machine.Machine { return reading(t, as) }}
	write := pair{got: func() machine.Machine { return writing(t, as) }}
	if name == "iscii" {
		read.want = func() machine.Machine { return iscii.Decode() }
		write.want = func() machine.Machine { return iscii.Encode() }
		return read, write
	}
	x := of(t, rules(name))
	read.want = func() machine.Machine { return machine.Decode(x) }
	write.want = func() machine.Machine { return machine.Encode(x) }
	return read, write
}

// other is one of the other names of a codec, if it has any, in great letters.
func other(name string) string {
	for word, want := range known() {
		if want == name && word != name {
			return strings.ToUpper(word)
		}
	}
	return strings.ToUpper(name)
}

func TestMachinesAreThoseOfTheirLayers(t *testing.T) { // P19.3
	in, out := steps()
	for _, name := range append(tabled(), "iscii") {
		for _, as := range []string{name, other(name)} {
			read, write := pairs(t, name, as)
			for _, x := range []struct {
				pair
				steps []int
			}{{read, in}, {write, out}} {
				// A machine that is new, and one that goes on.
				for _, us := range rows(1, x.steps...) {
					beside(t, x.got(), x.want())(append(us, us...))
				}
				hold := beside(t, x.got(), x.want())
				for _, us := range rows(3, x.steps...) {
					hold(us)
				}
				hold(unlike())
			}
		}
	}
}

func TestEveryByteAndEveryScalar(t *testing.T) { // P19.3
	for _, name := range append(tabled(), "iscii") {
		read, write := pairs(t, name, name)
		hold := beside(t, read.got(), read.want())
		for a := -1; a <= 0x100; a++ {
			for b := -1; b <= 0x100; b++ {
				hold(units(a, b))
			}
		}
		hold = beside(t, write.got(), write.want())
		for s := -0x100; s < 0x3000; s++ {
			hold(units(s))
		}
		for s := 0x3000; s < 0x110100; s += 7 {
			hold(units(s))
		}
	}
}

// text is a text in a codec, by hand.
type text struct {
	name  string
	text  string
	bytes string
}

func texts() []text {
	return []text{
		{"utf-8", "", ""},
		{"utf-8", "Tiếng ไทย தமிழ் 😀", "Ti\xe1\xba\xbfng \xe0\xb9\x84\xe0\xb8\x97\xe0\xb8\xa2 \xe0\xae\xa4\xe0\xae\xae\xe0\xae\xbf\xe0\xae\xb4\xe0\xaf\x8d \xf0\x9f\x98\x80"},
		{"ascii", "\x00 lontar ~\x7f", "\x00 lontar ~\x7f"},
		{"viscii", "Tiếng Việt", "Ti\xaang Vi\xaet"},
		{"viscii", "Ẳ Ỵ đ", "\x02 \x1e \xf0"},
		{"tcvn3", "Tiếng Việt đ", "Ti\xd5ng Vi\xd6t \xae"},
		{"vni", "Tiếng Việt", "Tie\xe1ng Vie\xe4t"},
		{"vni", "Ơ ở Ị ị", "\xd4 \xf4\xfb \xd2 \xf2"},
		{"tis-620", "ไทย ฿", "\xe4\xb7\xc2 \xdf"},
		{"tscii", "தமிழ்", "\xb6\xb9\xab\xde"},
		{"tscii", "கொடு யௌ", "\xa6\xb0\xaa\xb4\xad \xa6\xba\xaf"},
		{"iscii", "क्या", "\xb3\xe8\xcd\xda"},
		{"iscii", "অ ક।", "\xefC\xa4 \xefJ\xb3\xea"},
	}
}

// bytes and scalars are those of a text, as units.
func bytes(s string) []int {
	var us []int
	for _, c := range []byte(s) {
		us = append(us, int(c))
	}
	return us
}

func scalars(s string) []int {
	var us []int
	for _, r := range s {
		us = append(us, int(r))
	}
	return us
}

func TestTexts(t *testing.T) { // P19.3, T2
	for _, x := range texts() {
		for _, as := range []string{x.name, other(x.name)} {
			us, wrong := rewrite.Units(machine.All(reading(t, as), bytes(x.bytes)))
			if !slices.Equal(us, scalars(x.text)) || wrong.Err != 0 {
				t.Errorf("%s: %x is read as %x, %x", as, x.bytes, us, wrong)
			}
			us, wrong = rewrite.Units(machine.All(writing(t, as), scalars(x.text)))
			if !slices.Equal(us, bytes(x.bytes)) || wrong.Err != 0 {
				t.Errorf("%s: %x is written as %x, %x", as, scalars(x.text), us, wrong)
			}
		}
	}
}

// rolls are numbers that look like none in particular, always the same ones.
func rolls(seed uint32) func(n int) int {
	return func(n int) int {
		seed = seed*1664525 + 1013904223
		return int(seed>>8) % n
	}
}

func TestWhatIsWrittenIsRead(t *testing.T) { // T2, T3: P19.3
	roll := rolls(19)
	_, out := steps()
	for _, name := range codec.Names() {
		n := 0
		for range 150 {
			var us, ss []int
			for range 1 + roll(6) {
				us = append(us, units(roll(0x80), 0x80+roll(0x80), 0xa1+roll(0x50))[roll(3)])
				ss = append(ss, units(roll(0x80), max(0, out[roll(len(out))]))[roll(2)])
			}
			bs, wrong := rewrite.Units(machine.All(writing(t, name), ss))
			if wrong.Err == 0 {
				n++
				back, fault := rewrite.Units(machine.All(reading(t, name), bs))
				if !slices.Equal(back, ss) || fault.Err != 0 {
					t.Fatalf("%s: %x is written as %x, which is read as %x, %x", name, ss, bs, back, fault)
				}
			}
			meaning, wrong := rewrite.Units(machine.All(reading(t, name), us))
			if wrong.Err != 0 {
				continue
			}
			bs, wrong = rewrite.Units(machine.All(writing(t, name), meaning))
			if wrong.Err != 0 {
				continue
			}
			n++
			again, fault := rewrite.Units(machine.All(reading(t, name), bs))
			twice, worse := rewrite.Units(machine.All(writing(t, name), again))
			if !slices.Equal(again, meaning) || fault.Err != 0 || !slices.Equal(twice, bs) || worse.Err != 0 {
				t.Fatalf("%s: %x is read as %x, written as %x, read as %x", name, us, meaning, bs, again)
			}
		}
		if n < 20 {
			t.Error(name, n)
		}
	}
}

func TestFewUnitsWait(t *testing.T) { // T4: P19.3
	roll := rolls(4)
	in, out := steps()
	for _, name := range codec.Names() {
		r, w := reading(t, name), writing(t, name)
		for range 3000 {
			run(r, in[roll(len(in))])
			run(w, out[roll(len(out))])
			if r.Held() >= api.MaxUnits || w.Held() >= api.MaxUnits {
				t.Fatal(name, r.Held(), w.Held())
			}
		}
		run(r, end)
		run(w, end)
		held(t, r, 0)
		held(t, w, 0)
	}
}

func TestNothingIsShared(t *testing.T) { // P19.2, P19.3, W2, W6
	for _, x := range []struct {
		name     string
		in, out  int
		inTold   []api.Token
		outTold  []api.Token
		inHolds  bool
		outHolds bool
	}{
		{"utf-8", 0xe1, 'a', nil, []api.Token{good(0, 1, 'a')}, true, false},
		{"ascii", 'a', 'a', []api.Token{good(0, 1, 'a')}, []api.Token{good(0, 1, 'a')}, false, false},
		{"vni", 'e', 0x1ebf, nil, []api.Token{good(0, 1, 'e', 0xe1)}, true, false},
		{"tscii", 0xa6, 0xb95, nil, nil, true, true},
		{"iscii", 0xe8, 0x94d, nil, nil, true, true},
	} {
		// Each time new ones, whatever came to the earlier ones.
		for range 3 {
			r, w := reading(t, x.name), writing(t, x.name)
			held(t, r, 0)
			held(t, w, 0)
			tokens(t, r.Put(x.in), x.inTold...)
			tokens(t, w.Put(x.out), x.outTold...)
			if (r.Held() > 0) != x.inHolds || (w.Held() > 0) != x.outHolds {
				t.Fatal(x.name, r.Held(), w.Held())
			}
		}
	}
	// Whatever becomes of tokens that were told, later ones are what they would be.
	for _, x := range texts() {
		if x.text == "" {
			continue
		}
		r, w := reading(t, x.name), writing(t, x.name)
		for range 3 {
			ts := append(run(r, append(bytes(x.bytes), end)...), run(w, append(scalars(x.text), end)...)...)
			for k := range ts {
				for j := range ts[k].Out {
					ts[k].Out[j] = -7
				}
				ts[k] = api.Token{}
			}
		}
		read, write := reading(t, x.name), writing(t, x.name)
		us, _ := rewrite.Units(machine.All(read, bytes(x.bytes)))
		bs, _ := rewrite.Units(machine.All(write, scalars(x.text)))
		if !slices.Equal(us, scalars(x.text)) || !slices.Equal(bs, bytes(x.bytes)) {
			t.Errorf("%s: %x, %x", x.name, us, bs)
		}
		// Two tables of one name are two.
		if a, b := codec.Table(x.name), codec.Table(x.name); a != nil && a == b {
			t.Error(x.name, "has one table only")
		}
	}
	// What ISCII has switched in one machine is not switched in another one.
	tokens(t, run(reading(t, "iscii"), 0xef, 0x43, 0xa4, end), good(0, 2), good(2, 1, 0x985))
	tokens(t, run(reading(t, "iscii"), 0xa4, end), good(0, 1, 0x905))
	tokens(t, run(writing(t, "iscii"), 0x985, end), api.Token{Out: units(0xef, 0x43)}, good(0, 1, 0xa4))
	tokens(t, run(writing(t, "iscii"), 0x905, end), good(0, 1, 0xa4))
}

func TestISCIIHasItsScript(t *testing.T) { // P19.3: its machines are those of layer 18
	d, ok := reading(t, "iscii").(*iscii.Decoder)
	if !ok || d.Script() != indic.Devanagari {
		t.Fatal("no decoder of ISCII")
	}
	e, ok := writing(t, "ISCII-91").(*iscii.Encoder)
	if !ok || e.Script() != indic.Devanagari {
		t.Fatal("no encoder of ISCII")
	}
	run(d, 0xef, 0x49)
	run(e, 0xd05)
	if d.Script() != indic.Malayalam || e.Script() != indic.Malayalam {
		t.Error(d.Script(), e.Script())
	}
}

func TestALongRow(t *testing.T) { // P19.3, W1
	const size = 1 << 18
	for _, name := range codec.Names() {
		r, w := reading(t, name), writing(t, name)
		read, written := 0, 0
		for range size {
			read += len(r.Put('z'))
			written += len(w.Put('z'))
		}
		read += len(r.End())
		written += len(w.End())
		if read != size || written != size {
			t.Fatal(name, read, written)
		}
		tokens(t, run(r, 'A', end), good(size, 1, 'A'))
		tokens(t, run(w, 'A', end), good(size, 1, 'A'))
	}
}
