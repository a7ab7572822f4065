package detect_test

import (
	"slices"
	"strings"
	"testing"

	"lontar/api"
	"lontar/codec"
	"lontar/detect"
	"lontar/machine"
)

// of is a Score of so many pieces that are wrong, and so many scalars above 7f.
func of(name string, wrong, above int) detect.Score {
	return detect.Score{Name: name, Fit: complex(float64(wrong), float64(above))}
}

// scores hold what a Detector ends with.
func scores(t *testing.T, d *detect.Detector, want ...detect.Score) {
	t.Helper()
	if got := d.End(); !slices.Equal(got, want) {
		t.Fatalf("scores %v, not %v", got, want)
	}
}

// put is a new Detector that read bytes.
func put(in string) *detect.Detector {
	d := detect.New()
	d.Put([]byte(in)...)
	return d
}

// best holds the codec of bytes, and that they stay as they are.
func best(t *testing.T, in, want string) {
	t.Helper()
	b := []byte(in)
	if got := detect.Best(b); got != want || string(b) != in {
		t.Fatalf("%.40q is %q, not %q; the bytes are %.40q", in, got, want, b)
	}
}

// high tells whether there is a byte of 80 or more.
func high(in string) bool {
	for k := range len(in) {
		if in[k] >= 0x80 {
			return true
		}
	}
	return false
}

// names are the codecs in their order, as P19.1 has them.
func names() []string {
	return []string{"utf-8", "ascii", "viscii", "tcvn3", "vni", "tis-620", "tscii", "iscii"}
}

// even is what all codecs have if each of them has the same.
func even(wrong, above int) []detect.Score {
	var l []detect.Score
	for _, name := range names() {
		l = append(l, of(name, wrong, above))
	}
	return l
}

// model counts by the words of P21.1: each codec's machine, and its two counts.
type model struct {
	machines []machine.Machine
	wrong    []int
	above    []int
}

// tabled make the machines, whose tables are made only once, as that takes long.
func tabled() []func() machine.Machine {
	var l []func() machine.Machine
	for _, name := range names() {
		t := codec.Table(name)
		l = append(l, func() machine.Machine {
			if t != nil {
				return machine.Decode(t)
			}
			m, _ := codec.Decode(name)
			return m
		})
	}
	return l
}

// begin is a model that read nothing.
func begin(tables []func() machine.Machine) *model {
	x := &model{wrong: make([]int, len(tables)), above: make([]int, len(tables))}
	for _, f := range tables {
		x.machines = append(x.machines, f())
	}
	return x
}

func (x *model) count(k int, ts []api.Token) {
	for _, y := range ts {
		if y.Err != 0 {
			x.wrong[k]++
		}
		for _, s := range y.Out {
			if s >= 0x80 {
				x.above[k]++
			}
		}
	}
}

func (x *model) put(in string) {
	for k, m := range x.machines {
		for _, c := range []byte(in) {
			x.count(k, m.Put(int(c)))
		}
	}
}

// end takes, one after the other, the first codec that none of those left goes ahead of.
func (x *model) end() []detect.Score {
	var left []int
	for k, m := range x.machines {
		x.count(k, m.End())
		left = append(left, k)
	}
	var l []detect.Score
	for len(left) > 0 {
		first := 0
		for k := range left {
			if x.ahead(left[k], left[first]) {
				first = k
			}
		}
		k := left[first]
		l = append(l, of(names()[k], x.wrong[k], x.above[k]))
		left = slices.Delete(left, first, first+1)
	}
	return l
}

func (x *model) ahead(a, b int) bool {
	switch {
	case x.wrong[a] != x.wrong[b]:
		return x.wrong[a] < x.wrong[b]
	case x.above[a] != x.above[b]:
		return x.above[a] < x.above[b]
	}
	return a < b
}

// rows goes through all rows of at most so many of some bytes.
func rows(some string, most int, f func(row string)) {
	f("")
	if most == 0 {
		return
	}
	for k := range len(some) {
		rows(some, most-1, func(rest string) { f(some[k:k+1] + rest) })
	}
}

// texts are words in the codecs, and bytes that are cut off or wrong.
func texts() []string {
	return []string{
		"", "a", "\x7f", "\x80", "\xff",
		"Ti\xe1\xba\xbfng", "Ti\xaang", "Ti\xd5ng", "Tie\xe1ng",
		"\xa1\xd2\xc3", "\xa6\xb0\xaa", "\xef\x43\xb3\xda\xa4",
		"\xb3\xe9\xe8\xe9", "\xef", "\xef\x80", "\xe1\xba", "\xf0\x9f\x98", "\xa6\xb0",
		"\xed\xa0\x80", "\xf4\x90\x80\x80", "\xc0\x80",
		"\x02\x05\x06\x14\x19\x1e", "\x00\xa0\xfe",
	}
}

func TestOfNothing(t *testing.T) { // P21.1, P21.2
	scores(t, detect.New(), even(0, 0)...)
	scores(t, put(""), even(0, 0)...)
	d := detect.New()
	d.Put()
	d.Put(nil...)
	scores(t, d, even(0, 0)...)
	if got := detect.Best(nil); got != "ascii" {
		t.Fatal(got)
	}
}

func TestNames(t *testing.T) { // P21.1
	if !slices.Equal(names(), codec.Names()) {
		t.Fatal(codec.Names())
	}
	for _, in := range texts() {
		var got []string
		for _, x := range put(in).End() {
			got = append(got, x.Name)
		}
		want := names()
		slices.Sort(got)
		slices.Sort(want)
		if !slices.Equal(got, want) {
			t.Fatalf("%q: %v", in, got)
		}
	}
}

// TestScores has the counts that the tables of layers 1, 7, 11 to 14 and 17 give.
func TestScores(t *testing.T) { // P21.1
	for _, x := range []struct {
		in   string
		want []detect.Score
	}{
		{"az\x7f\x00", even(0, 0)},
		{"\x02", []detect.Score{of("utf-8", 0, 0), of("ascii", 0, 0), of("tcvn3", 0, 0), of("vni", 0, 0), of("tis-620", 0, 0), of("tscii", 0, 0), of("iscii", 0, 0), of("viscii", 0, 1)}},
		{"\x80", []detect.Score{of("viscii", 0, 1), of("utf-8", 1, 0), of("ascii", 1, 0), of("tcvn3", 1, 0), of("vni", 1, 0), of("tis-620", 1, 0), of("tscii", 1, 0), of("iscii", 1, 0)}},
		{"\xc2\x80", []detect.Score{of("utf-8", 0, 1), of("viscii", 0, 2), of("tis-620", 1, 1), of("tscii", 1, 1), of("iscii", 1, 1), of("ascii", 2, 0), of("tcvn3", 2, 0), of("vni", 2, 0)}},
		{"\xa1", []detect.Score{of("viscii", 0, 1), of("tcvn3", 0, 1), of("tis-620", 0, 1), of("iscii", 0, 1), of("utf-8", 1, 0), of("ascii", 1, 0), of("vni", 1, 0), of("tscii", 1, 0)}},
		{"a\xe0", []detect.Score{of("viscii", 0, 1), of("vni", 0, 1), of("tis-620", 0, 1), of("iscii", 0, 1), of("tscii", 0, 2), of("utf-8", 1, 0), of("ascii", 1, 0), of("tcvn3", 1, 0)}},
		{"\xe1\xba\xbf", []detect.Score{of("utf-8", 0, 1), of("viscii", 0, 3), of("tis-620", 0, 3), of("iscii", 0, 3), of("tscii", 0, 4), of("tcvn3", 2, 1), of("ascii", 3, 0), of("vni", 3, 0)}},
		{"\xe1\xba", []detect.Score{of("viscii", 0, 2), of("tis-620", 0, 2), of("iscii", 0, 2), of("tscii", 0, 3), of("utf-8", 1, 0), of("tcvn3", 1, 1), of("ascii", 2, 0), of("vni", 2, 0)}},
		{"\xef\x43\xb3", []detect.Score{of("iscii", 0, 1), of("viscii", 0, 2), of("tis-620", 0, 2), of("tcvn3", 1, 1), of("tscii", 1, 1), of("utf-8", 2, 0), of("ascii", 2, 0), of("vni", 2, 0)}},
		{"\xef\x43", []detect.Score{of("iscii", 0, 0), of("viscii", 0, 1), of("tcvn3", 0, 1), of("tis-620", 0, 1), of("utf-8", 1, 0), of("ascii", 1, 0), of("vni", 1, 0), of("tscii", 1, 0)}},
		{"\xef", []detect.Score{of("viscii", 0, 1), of("tcvn3", 0, 1), of("tis-620", 0, 1), of("utf-8", 1, 0), of("ascii", 1, 0), of("vni", 1, 0), of("tscii", 1, 0), of("iscii", 1, 0)}},
		{"\xa6\xb0\xaa", []detect.Score{of("tscii", 0, 2), of("viscii", 0, 3), of("tis-620", 0, 3), of("iscii", 0, 3), of("tcvn3", 1, 2), of("utf-8", 3, 0), of("ascii", 3, 0), of("vni", 3, 0)}},
		{"\xed\xa0\x80", []detect.Score{of("viscii", 0, 3), of("tcvn3", 2, 1), of("vni", 2, 1), of("tis-620", 2, 1), of("utf-8", 3, 0), of("ascii", 3, 0), of("tscii", 3, 0), of("iscii", 3, 0)}},
	} {
		scores(t, put(x.in), x.want...)
	}
}

func TestCountsOfLongTexts(t *testing.T) { // P21.1
	const n = 20000
	scores(t, put(strings.Repeat("\x80", n)), of("viscii", 0, n), of("utf-8", n, 0), of("ascii", n, 0), of("tcvn3", n, 0), of("vni", n, 0), of("tis-620", n, 0), of("tscii", n, 0), of("iscii", n, 0))
	scores(t, put(strings.Repeat("a", n)), even(0, 0)...)
	scores(t, put(strings.Repeat("\xef\x43", n)), of("iscii", 0, 0), of("viscii", 0, n), of("tcvn3", 0, n), of("tis-620", 0, n), of("utf-8", n, 0), of("ascii", n, 0), of("vni", n, 0), of("tscii", n, 0))
}

// TestModel has short rows read by new Detectors.
func TestModel(t *testing.T) { // P21.1, P21.2
	tables := tabled()
	check := func(in string) {
		x := begin(tables)
		x.put(in)
		want := x.end()
		scores(t, put(in), want...)
		if high(in) {
			best(t, in, want[0].Name)
		} else {
			best(t, in, "ascii")
		}
	}
	for c := range 256 {
		check(string([]byte{byte(c)}))
	}
	rows("a\x02\x80\xe1\xef\xe9\xa6", 2, check)
	rows("\xb0\xe8\x42", 3, check)
	for _, in := range texts() {
		check(in)
		check(in + "\x02")
		check("\xe1" + in)
	}
}

// TestAllPairs has a Detector read every two bytes, and more behind each end.
func TestAllPairs(t *testing.T) { // P21.1
	d, x := detect.New(), begin(tabled())
	for c := range 1 << 16 {
		in := string([]byte{byte(c >> 8), byte(c)})
		d.Put(in[0], in[1])
		x.put(in)
		scores(t, d, x.end()...)
	}
}

// TestCalls has all rows of three calls, in which End may stand anywhere.
func TestCalls(t *testing.T) { // P21.1
	tables := tabled()
	const end = "."
	calls := []string{"", "\xa6", "\xb0\xaa", "\xe1\xba", "\xbf\xef", "C\xe8", end}
	for k := range len(calls) * len(calls) * len(calls) {
		d, x := detect.New(), begin(tables)
		for _, j := range []int{k % len(calls), k / len(calls) % len(calls), k / len(calls) / len(calls)} {
			if calls[j] == end {
				scores(t, d, x.end()...)
			} else {
				d.Put([]byte(calls[j])...)
				x.put(calls[j])
			}
		}
		scores(t, d, x.end()...)
	}
}

// TestEndAgain has nothing counted twice, as nothing waits behind an end.
func TestEndAgain(t *testing.T) { // P21.1
	for _, in := range texts() {
		d := put(in)
		want := d.End()
		scores(t, d, want...)
		d.Put()
		scores(t, d, want...)
	}
	d := put("\xe1\xba")
	d.End()
	d.Put(0xbf)
	scores(t, d, of("viscii", 0, 3), of("tis-620", 0, 3), of("iscii", 0, 3), of("tscii", 0, 4), of("utf-8", 2, 0), of("tcvn3", 2, 1), of("ascii", 3, 0), of("vni", 3, 0))
}

// TestParts has each way to part a text at the first six places.
func TestParts(t *testing.T) { // P21.1, T6
	for _, in := range texts() {
		want := put(in).End()
		for cuts := range 1 << max(0, min(len(in), 7)-1) {
			d, from := detect.New(), 0
			for k := 1; k < len(in); k++ {
				if cuts>>(k-1)&1 == 1 {
					d.Put([]byte(in[from:k])...)
					from = k
				}
			}
			d.Put([]byte(in[from:])...)
			scores(t, d, want...)
		}
	}
}

// TestOneByOne has a long text come in parts of different lengths.
func TestOneByOne(t *testing.T) { // P21.1, T6
	in := strings.Repeat(strings.Join(texts(), ""), 40)
	want := put(in).End()
	for _, size := range []int{1, 2, 3, 7, 1000} {
		d := detect.New()
		for part := range slices.Chunk([]byte(in), size) {
			d.Put(part...)
		}
		scores(t, d, want...)
	}
}

// TestAllRead has those that read everything go ahead of the others, whatever they read.
func TestAllRead(t *testing.T) { // P21.1, T6
	for _, in := range texts() {
		missed := false
		for _, x := range put(in).End() {
			if missed && real(x.Fit) == 0 {
				t.Fatalf("%q: %v stands behind one that has errors", in, x)
			}
			missed = missed || real(x.Fit) > 0
		}
	}
}

func TestBest(t *testing.T) { // P21.2
	for in, want := range map[string]string{
		"":                     "ascii",
		"Tieng":                "ascii",
		"\x7f":                 "ascii",
		"\x00":                 "ascii",
		"\x02\x05\x06":         "ascii",
		"\x80":                 "viscii",
		"\xff":                 "viscii",
		"\x7f\x80":             "viscii",
		"Ti\xe1\xba\xbfng":     "utf-8",
		"\xe1\xba\xbf\xaa":     "viscii",
		"\xc2\x80":             "utf-8",
		"\xc0\x80":             "viscii",
		"Ti\xaang":             "viscii",
		"\xb8\x02":             "tcvn3",
		"a\xe0\x02":            "vni",
		"\xb4\x02":             "tis-620",
		"\xa6\xb0\xaa":         "tscii",
		"\x91\x02":             "tscii",
		"\xb3\xe9":             "iscii",
		"\xef\x43\xb3\xda\xa4": "iscii",
		"\xef\x43":             "iscii",
		"\xef":                 "viscii",
	} {
		best(t, in, want)
	}
}

// TestBestOfASCII has one byte of 80 or more among many others, at each place.
func TestBestOfASCII(t *testing.T) { // P21.2
	for c := range 0x80 {
		best(t, string([]byte{byte(c)}), "ascii")
		best(t, strings.Repeat("\x7f", 20)+string([]byte{byte(c)}), "ascii")
	}
	best(t, strings.Repeat("a\x02\x7f\x00", 100000), "ascii")
	for k := range 20 {
		best(t, strings.Repeat("a", k)+"\x80"+strings.Repeat("a", 19-k), "viscii")
		best(t, strings.Repeat("a", k)+"\xc3\xa9"+strings.Repeat("a", 19-k), "utf-8")
	}
}

// TestNothingIsShared has two Detectors go on by themselves, and keep neither bytes nor Scores.
func TestNothingIsShared(t *testing.T) { // P21.1, W2, W6
	b := []byte("\xe1\xba\xbf")
	d, other := detect.New(), detect.New()
	d.Put(b...)
	if string(b) != "\xe1\xba\xbf" {
		t.Fatalf("the bytes are %q", b)
	}
	clear(b)
	want := put("\xe1\xba\xbf").End()
	got := d.End()
	for k := range got {
		got[k] = of("x", 7, 7)
	}
	again := append(d.End()[:1], of("y", 8, 8))
	scores(t, d, want...)
	if again[0] != want[0] {
		t.Fatal(again)
	}
	scores(t, other, even(0, 0)...)
	other.Put('a')
	scores(t, d, want...)
	scores(t, detect.New(), even(0, 0)...)
}

// TestZero has a Detector that New did not make: nothing is promised of it, but it must not panic.
func TestZero(t *testing.T) {
	d := &detect.Detector{}
	d.Put()
	d.Put(0x61, 0x80)
	scores(t, d)
}
