package iscii_test

import (
	"math"
	"slices"
	"strconv"
	"strings"
	"testing"

	"lontar/api"
	"lontar/indic"
	"lontar/iscii"
	"lontar/machine"
	"lontar/rewrite"
	"lontar/table"
)

func units(us ...int) []int { return us }

// good is a token of a rule, bad one of a unit that is not mapped, turn one of a switch that was written.
func good(at, size int, out ...int) api.Token { return api.Token{At: at, Len: size, Out: out} }

func bad(at int) api.Token { return api.Token{At: at, Len: 1, Err: api.ErrMap} }

func turn(at, code int) api.Token { return api.Token{At: at, Out: units(0xef, code)} }

func sameToken(a, b api.Token) bool {
	return a.At == b.At && a.Len == b.Len && a.Err == b.Err && slices.Equal(a.Out, b.Out)
}

func same(a, b []api.Token) bool { return slices.EqualFunc(a, b, sameToken) }

func tokens(t *testing.T, got []api.Token, want ...api.Token) {
	t.Helper()
	if !same(got, want) {
		t.Fatalf("tokens %x, not %x", got, want)
	}
}

// coder is a Decoder or an Encoder.
type coder interface {
	machine.Machine
	Script() indic.Script
}

// stands holds how many units wait, and the script; asking twice must not change them.
func stands(t *testing.T, c coder, held int, script indic.Script) {
	t.Helper()
	for range 2 {
		if c.Held() != held || c.Script() != script {
			t.Fatalf("%d wait, and the script is %d, not %d and %d", c.Held(), c.Script(), held, script)
		}
	}
}

// end stands among units for a call of End.
const end = math.MinInt + 1

func step(m machine.Machine, u int) []api.Token {
	if u == end {
		return m.End()
	}
	return m.Put(u)
}

// run is the tokens of all steps.
func run(m machine.Machine, us ...int) []api.Token {
	var ts []api.Token
	for _, u := range us {
		ts = append(ts, step(m, u)...)
	}
	return ts
}

// of is the table of the rules.
func of(t *testing.T) *table.Table {
	t.Helper()
	x, e := table.Of(indic.Rules())
	if x == nil || e != 0 {
		t.Fatal(e)
	}
	return x
}

// reading does what P18.1 says, word for word.
type reading struct {
	machine.Machine
	script int
}

func (r *reading) step(u int) []api.Token {
	ts := step(r.Machine, u)
	for k, x := range ts {
		var out []int
		for _, u := range x.Out {
			if u >= 0x2000 {
				out = append(out, u-0x2000)
			} else if u >= 0x1000 {
				r.script = u - 0x1000
			} else {
				out = append(out, 0x900+0x80*r.script+u)
			}
		}
		ts[k].Out = out
	}
	return ts
}

// writing does what P18.2 says, word for word.
type writing struct {
	*machine.Encoder
	script int
	put    []int
}

func (w *writing) step(s int) []api.Token {
	if s == end {
		return w.End()
	}
	var ts []api.Token
	unit := s + 0x2000
	switch {
	case s < 0 || s >= 0xd800 && s <= 0xdfff || s > 0x10ffff:
		unit = -1
	case s >= 0x900 && s <= 0xd7f && s != 0x964:
		unit = s & 0x7f
		if script := s/0x80 - 0x12; script != w.script {
			ts = append(w.End(), turn(len(w.put), units(0x42, 0x43, 0x4b, 0x4a, 0x47, 0x44, 0x45, 0x48, 0x49)[script]))
			w.script = script
			w.Apart()
		}
	}
	w.put = append(w.put, s)
	return append(ts, w.Put(unit)...)
}

// decoding is a test that holds a Decoder against P18.1, step by step. It goes on from one row of steps to the next.
func decoding(t *testing.T, d *iscii.Decoder) func(us []int) {
	t.Helper()
	r := &reading{Machine: machine.Decode(of(t))}
	return func(us []int) {
		t.Helper()
		for k, u := range us {
			if got, want := step(d, u), r.step(u); !same(got, want) {
				t.Fatalf("step %d of %x is %x, not %x", k, us, got, want)
			}
			stands(t, d, r.Held(), indic.Script(r.script))
			if d.Held() > 1 {
				t.Fatalf("behind step %d of %x wait %d", k, us, d.Held())
			}
		}
	}
}

// encoding is the same of an Encoder and P18.2.
func encoding(t *testing.T, e *iscii.Encoder) func(us []int) {
	t.Helper()
	w := &writing{Encoder: machine.Encode(of(t))}
	return func(us []int) {
		t.Helper()
		for k, u := range us {
			if got, want := step(e, u), w.step(u); !same(got, want) {
				t.Fatalf("step %d of %x is %x, not %x", k, us, got, want)
			}
			stands(t, e, w.Held(), indic.Script(w.script))
			if e.Held() > 1 {
				t.Fatalf("behind step %d of %x wait %d", k, us, e.Held())
			}
		}
	}
}

// rows are all rows of exactly n of the units given.
func rows(n int, from ...int) [][]int {
	all := [][]int{nil}
	for range n {
		var longer [][]int
		for _, us := range all {
			for _, u := range from {
				longer = append(longer, append(slices.Clone(us), u))
			}
		}
		all = longer
	}
	return all
}

// hex are the numbers of words; one of more than two places is a scalar, not a byte.
func hex(t *testing.T, words string) []int {
	t.Helper()
	var ns []int
	for _, word := range strings.Fields(words) {
		n, err := strconv.ParseInt(word, 16, 64)
		if err != nil {
			t.Fatal(err)
		}
		ns = append(ns, int(n))
	}
	return ns
}

// scalars are those of a text.
func scalars(text string) []int {
	var ss []int
	for _, r := range text {
		ss = append(ss, int(r))
	}
	return ss
}

// read holds what bytes mean, and the script at their end.
func read(t *testing.T, in, out []int, script indic.Script) {
	t.Helper()
	d := iscii.Decode()
	us, wrong := rewrite.Units(machine.All(d, in))
	if !slices.Equal(us, out) || wrong.Err != 0 {
		t.Errorf("%x is read as %x, %x, not %x", in, us, wrong, out)
	}
	stands(t, d, 0, script)
}

// written holds the bytes of scalars, and the script at their end.
func written(t *testing.T, out, in []int, script indic.Script) {
	t.Helper()
	e := iscii.Encode()
	us, wrong := rewrite.Units(machine.All(e, out))
	if !slices.Equal(us, in) || wrong.Err != 0 {
		t.Errorf("%x is written as %x, %x, not %x", out, us, wrong, in)
	}
	stands(t, e, 0, script)
}

func TestDecodeByName(t *testing.T) { // P18.1
	d := iscii.Decode()
	stands(t, d, 0, indic.Devanagari)
	tokens(t, d.End())
	tokens(t, d.Put('a'), good(0, 1, 'a'))
	// A letter may have a nukta, and a letter without one is told as soon as that is sure.
	tokens(t, d.Put(0xb3))
	stands(t, d, 1, indic.Devanagari)
	tokens(t, d.Put(0xe9), good(1, 2, 0x958))
	tokens(t, run(d, 0xb3, 0xb3), good(3, 1, 0x915))
	stands(t, d, 1, indic.Devanagari)
	tokens(t, d.Put(0xa2), good(4, 1, 0x915), good(5, 1, 0x902))
	// A switch means nothing; its script is there once both bytes came.
	tokens(t, d.Put(0xef))
	stands(t, d, 1, indic.Devanagari)
	tokens(t, d.Put(0x43), good(6, 2))
	stands(t, d, 0, indic.Bengali)
	tokens(t, run(d, 0xa2, 'a'), good(8, 1, 0x982), good(9, 1, 'a'))
	// What waits ahead of a switch is of the script that was there.
	tokens(t, d.Put(0xb3))
	tokens(t, d.Put(0xef), good(10, 1, 0x995))
	tokens(t, d.Put(0x45), good(11, 2))
	stands(t, d, 0, indic.Telugu)
	tokens(t, run(d, 0xe8, 0xe8), good(13, 2, 0xc4d, 0x200c))
	tokens(t, run(d, 0xe8, 0xe9), good(15, 2, 0xc4d, 0x200d))
	tokens(t, run(d, 0xe8, 0xd9), good(17, 1, 0xc4d), good(18, 1, 0x200d))
	// The danda is of no script, but a danda with a nukta is.
	tokens(t, run(d, 0xea, end), good(19, 1, 0x964))
	tokens(t, run(d, 0xea, 0xe9), good(20, 2, 0xc3d))
	stands(t, d, 0, indic.Telugu)
	// After an end what comes is of the same script, and At goes on.
	tokens(t, d.Put(0xb4))
	tokens(t, d.End(), good(22, 1, 0xc16))
	tokens(t, d.End())
	stands(t, d, 0, indic.Telugu)
	tokens(t, run(d, 0xef, 0x42, 0xd8), good(23, 2), good(25, 1, 0x939))
	stands(t, d, 0, indic.Devanagari)
}

func TestDecodeWhatIsWrong(t *testing.T) { // P18.1, W1, W3: no error changes the script
	d := iscii.Decode()
	tokens(t, run(d, 0xef, 0x44), good(0, 2))
	tokens(t, d.Put(0x80), bad(2))
	tokens(t, d.Put(0xff), bad(3))
	// Not every byte is a code.
	tokens(t, run(d, 0xef, 0x41), bad(4), good(5, 1, 'A'))
	tokens(t, run(d, 0xef, 0x46), bad(6), good(7, 1, 'F'))
	tokens(t, run(d, 0xef, 0xef), bad(8))
	stands(t, d, 1, indic.Tamil)
	tokens(t, d.Put(0x49), good(9, 2))
	stands(t, d, 0, indic.Malayalam)
	tokens(t, d.Put(0xef))
	tokens(t, d.End(), bad(11))
	tokens(t, d.Put(0x42), good(12, 1, 'B'))
	tokens(t, run(d, 0xf0, 0xb3, end), bad(13), good(14, 1, 0xd15))
	tokens(t, run(d, 0xf0, 0xb8, 0xf0, 0xbf), good(15, 2, 0xd52), good(17, 2, 0xd70))
	stands(t, d, 0, indic.Malayalam)
	// Numbers that are no bytes have no byte's meaning.
	for k, u := range units(-1, 0x100, 0x1b3, -0x4d, 0x1000, 0x1001, 0x2041, 0x915, 0xef42, math.MinInt, math.MaxInt, 1<<32|0x41, 1<<63-0x100+0xb3) {
		tokens(t, d.Put(u), bad(19+k))
		stands(t, d, 0, indic.Malayalam)
	}
}

func TestEncodeByName(t *testing.T) { // P18.2
	e := iscii.Encode()
	stands(t, e, 0, indic.Devanagari)
	tokens(t, e.End())
	tokens(t, e.Put('a'), good(0, 1, 'a'))
	tokens(t, e.Put(0x915), good(1, 1, 0xb3))
	stands(t, e, 0, indic.Devanagari)
	// A halant waits, and is told ahead of a switch, which has no length.
	tokens(t, e.Put(0x94d))
	stands(t, e, 1, indic.Devanagari)
	tokens(t, e.Put(0x995), good(2, 1, 0xe8), turn(3, 0x43), good(3, 1, 0xb3))
	stands(t, e, 0, indic.Bengali)
	tokens(t, e.Put(0x982), good(4, 1, 0xa2))
	// Of no script: there is no switch.
	tokens(t, e.Put(0x964), good(5, 1, 0xea))
	tokens(t, e.Put(0x200d), good(6, 1, 0xd9))
	tokens(t, e.Put('b'), good(7, 1, 'b'))
	stands(t, e, 0, indic.Bengali)
	tokens(t, e.Put(0x9bd), good(8, 1, 0xea, 0xe9))
	// What waits behind a switch waits on.
	tokens(t, e.Put(0xb4d), turn(9, 0x47))
	stands(t, e, 1, indic.Oriya)
	tokens(t, e.Put(0x200c), good(9, 2, 0xe8, 0xe8))
	tokens(t, run(e, 0xb4d, 0x200d), good(11, 2, 0xe8, 0xe9))
	tokens(t, run(e, 0xb4d, end, 0x200d), good(13, 1, 0xe8), good(14, 1, 0xd9))
	tokens(t, run(e, 0xb4d, 'c'), good(15, 1, 0xe8), good(16, 1, 'c'))
	tokens(t, run(e, 0xb4d, 0xccd), good(17, 1, 0xe8), turn(18, 0x48))
	stands(t, e, 1, indic.Kannada)
	// After an end what comes is of the same script, and At goes on.
	tokens(t, e.End(), good(18, 1, 0xe8))
	tokens(t, e.End())
	stands(t, e, 0, indic.Kannada)
	tokens(t, run(e, 'd', 0xc95), good(19, 1, 'd'), good(20, 1, 0xb3))
	tokens(t, e.Put(0x915), turn(21, 0x42), good(21, 1, 0xb3))
	stands(t, e, 0, indic.Devanagari)
}

func TestEncodeStandsApart(t *testing.T) { // P18.2: what would be read otherwise, and what is not behind a switch
	for _, x := range []struct {
		out []int
		ts  []api.Token
	}{
		{units(0x915, 0x93c), []api.Token{good(0, 1, 0xb3), bad(1)}},
		{units(0x915, end, 0x93c), []api.Token{good(0, 1, 0xb3), bad(1)}},
		{units(0x915, 0xe01, 0x93c), []api.Token{good(0, 1, 0xb3), bad(1), bad(2)}},
		{units(0x915, 'a', 0x93c), []api.Token{good(0, 1, 0xb3), good(1, 1, 'a'), good(2, 1, 0xe9)}},
		{units(0x915, 0x9bc), []api.Token{good(0, 1, 0xb3), turn(1, 0x43), good(1, 1, 0xe9)}},
		{units(0x964, 0x93c), []api.Token{good(0, 1, 0xea), bad(1)}},
		{units(0x964, 0x9bc), []api.Token{good(0, 1, 0xea), turn(1, 0x43), good(1, 1, 0xe9)}},
		{units(0x9b5, 0x9bc), []api.Token{turn(0, 0x43), good(0, 1, 0xd4), good(1, 1, 0xe9)}},
		{units(0x995, 0x9bc), []api.Token{turn(0, 0x43), good(0, 1, 0xb3), bad(1)}},
		// The token ahead of the switch stands behind what was ahead of it.
		{units(0x94d, 0x94d, 0x995), []api.Token{good(0, 1, 0xe8), bad(1), turn(2, 0x43), good(2, 1, 0xb3)}},
		{units(0x94d, 0x94d, end), []api.Token{good(0, 1, 0xe8), bad(1)}},
		{units(0x94d, 0x9cd, end), []api.Token{good(0, 1, 0xe8), turn(1, 0x43), good(1, 1, 0xe8)}},
		{units(0x94d, 0x9cd, 0x9cd, end), []api.Token{good(0, 1, 0xe8), turn(1, 0x43), good(1, 1, 0xe8), bad(2)}},
		// Back in the first script nothing is ahead, either.
		{units(0x915, 0x985, 0x93c), []api.Token{good(0, 1, 0xb3), turn(1, 0x43), good(1, 1, 0xa4), turn(2, 0x42), good(2, 1, 0xe9)}},
		// A letter without bytes has the script switched all the same.
		{units(0x915, 0x984, 0x93c), []api.Token{good(0, 1, 0xb3), turn(1, 0x43), bad(1), turn(2, 0x42), good(2, 1, 0xe9)}},
		{units(0x984, 0x9bc), []api.Token{turn(0, 0x43), bad(0), good(1, 1, 0xe9)}},
		{units(0x904, 0xdff, 0xd80), []api.Token{bad(0), bad(1), bad(2)}},
		{units(0x8ff, 0x900, 0xd7f), []api.Token{bad(0), bad(1), turn(2, 0x49), bad(2)}},
		// A switch is none of what stands ahead.
		{units(0x995, end, end, 0x93c), []api.Token{turn(0, 0x43), good(0, 1, 0xb3), turn(1, 0x42), good(1, 1, 0xe9)}},
		{units(end, 0x9bc, 'B'), []api.Token{turn(0, 0x43), good(0, 1, 0xe9), good(1, 1, 'B')}},
	} {
		if got := run(iscii.Encode(), x.out...); !same(got, x.ts) {
			t.Errorf("%x is written as %x, not %x", x.out, got, x.ts)
		}
	}
}

func TestEncodeWhatIsNoScalar(t *testing.T) { // P18.2, W1, W5
	e := iscii.Encode()
	tokens(t, run(e, 0x995), turn(0, 0x43), good(0, 1, 0xb3))
	at := 1
	// Some of these are a place, a switch or a plain scalar less 2000, or have the low bits of one.
	for _, s := range units(-1, -2, -0x1feb, -0x1fff, -0x2000, -0x1000, -0xfff, -0xff8, -0x2000+0x4d, 0xd800, 0xdbff, 0xdc00, 0xdfff, 0x110000, 0x110041, math.MaxInt, math.MaxInt-0x2000+1, math.MaxInt-0x1fff+0x41, math.MinInt, math.MinInt+0x915, 1<<32|0x915, 1<<32|0x41, 1<<63-1<<32+0x995) {
		tokens(t, e.Put(s), bad(at))
		stands(t, e, 0, indic.Bengali)
		at++
	}
	// They count, and what waits ahead of one is told.
	tokens(t, e.Put(0x9cd))
	tokens(t, e.Put(-1), good(at, 1, 0xe8), bad(at+1))
	tokens(t, e.Put(0x915), turn(at+2, 0x42), good(at+2, 1, 0xb3))
}

func TestExample(t *testing.T) { // P18.2
	written(t, units(0x995), units(0xef, 0x43, 0xb3), indic.Bengali)
	read(t, units(0xef, 0x43, 0xb3), units(0x995), indic.Bengali)
}

func TestTexts(t *testing.T) { // P18.1, P18.2, T2: words of all scripts, by hand, both ways
	for _, x := range []struct {
		text, in string
		script   indic.Script
	}{
		{"", "", indic.Devanagari},
		{"\x00 A~\x7f\n", "00 20 41 7e 7f 0a", indic.Devanagari},
		{"हिन्दी", "d8 db c6 e8 c4 dc", indic.Devanagari},
		{"नमस्ते।", "c6 cc d7 e8 c2 e1 ea", indic.Devanagari},
		{"\u0958\u0950\u093d\u0952\u0970", "b3 e9 a1 e9 ea e9 f0 b8 f0 bf", indic.Devanagari},
		{"क्\u200cष क्\u200dष\u200d", "b3 e8 e8 d6 20 b3 e8 e9 d6 d9", indic.Devanagari},
		{"१२३", "f2 f3 f4", indic.Devanagari},
		{"বাংলা", "ef 43 ca da a2 d1 da", indic.Bengali},
		{"ਪੰਜਾਬੀ", "ef 4b c8 f0 bf ba da ca dc", indic.Gurmukhi},
		{"ગુજરાતી", "ef 4a b5 dd ba cf da c2 dc", indic.Gujarati},
		{"ଓଡିଆ", "ef 47 b0 bf db a5", indic.Oriya},
		{"தமிழ்", "ef 44 c2 cc db d3 e8", indic.Tamil},
		{"తెలుగు", "ef 45 c2 e0 d1 dd b5 dd", indic.Telugu},
		{"ಕನ್ನಡ", "ef 48 b3 c6 e8 c6 bf", indic.Kannada},
		{"മലയാളം", "ef 49 cc d1 cd da d2 a2", indic.Malayalam},
		{"अ, আ। ଅ আ", "a4 2c 20 ef 43 a5 ea 20 ef 47 a4 20 ef 43 a5", indic.Bengali},
	} {
		read(t, hex(t, x.in), scalars(x.text), x.script)
		written(t, scalars(x.text), hex(t, x.in), x.script)
	}
	// Switches may be redundant where they are read, but not where they are written.
	read(t, hex(t, "ef 42 b5 ef 43 ef 43 b5 ef 44 ef 4b ef 42 b5"), units(0x917, 0x997, 0x917), indic.Devanagari)
	read(t, hex(t, "b5 ef 49"), units(0x917), indic.Malayalam)
	written(t, units(0x917, 0x997, 0x917), hex(t, "b5 ef 43 b5 ef 42 b5"), indic.Devanagari)
}

func TestEveryRuleOfEveryScript(t *testing.T) { // P18.1, P18.2
	codes := hex(t, "42 43 4b 4a 47 44 45 48 49")
	for script, code := range codes {
		d, e := iscii.Decode(), iscii.Encode()
		run(d, 0xef, code, 'a')
		run(e, 0x905+0x80*script, 'a')
		for _, r := range indic.Rules() {
			var out []int
			for _, u := range r.Out {
				switch {
				case u >= 0x2000:
					out = append(out, u-0x2000)
				case u < 0x1000:
					out = append(out, 0x900+0x80*script+u)
				}
			}
			us, wrong := rewrite.Units(machine.All(d, r.In))
			if !slices.Equal(us, out) || wrong.Err != 0 {
				t.Errorf("%x is read as %x, %x, not %x", r.In, us, wrong, out)
			}
			if r.In[0] == 0xef {
				// What a switch means can't be written; the script comes back here.
				run(d, 0xef, code)
				continue
			}
			// Behind an a everything is written as it is read.
			us, wrong = rewrite.Units(machine.All(e, append(out, 'a')))
			if !slices.Equal(us, append(slices.Clone(r.In), 'a')) || wrong.Err != 0 {
				t.Errorf("%x is written as %x, %x, not %x", out, us, wrong, r.In)
			}
			stands(t, d, 0, indic.Script(script))
			stands(t, e, 0, indic.Script(script))
		}
	}
}

func TestEveryTwoScripts(t *testing.T) { // P18.1, P18.2
	codes := hex(t, "42 43 4b 4a 47 44 45 48 49")
	for a, code := range codes {
		for b, other := range codes {
			d, e := iscii.Decode(), iscii.Encode()
			tokens(t, run(d, 0xef, code, 0xa2, 0xef, other, 0xa2), good(0, 2), good(2, 1, 0x902+0x80*a), good(3, 2), good(5, 1, 0x902+0x80*b))
			stands(t, d, 0, indic.Script(b))
			ts := []api.Token{turn(0, code), good(0, 1, 0xa2), turn(1, other), good(1, 1, 0xa2)}
			if a == b {
				ts = slices.Delete(ts, 2, 3)
			}
			if a == 0 {
				ts = ts[1:]
			}
			tokens(t, run(e, 0x902+0x80*a, 0x902+0x80*b), ts...)
			stands(t, e, 0, indic.Script(b))
		}
	}
}

func TestDecodeIsAsItsWordsSay(t *testing.T) { // P18.1
	steps := units('a', 0xa1, 0xa2, 0xe8, 0xe9, 0xea, 0xd9, 0xef, 0x42, 0x43, 0xf0, 0xb8, 0x80, -1, end)
	for _, us := range rows(3, steps...) {
		decoding(t, iscii.Decode())(us)
	}
	hold := decoding(t, iscii.Decode())
	for _, us := range rows(4, steps...) {
		hold(us)
	}
}

func TestEncodeIsAsItsWordsSay(t *testing.T) { // P18.2
	steps := units('a', 0x915, 0x93c, 0x94d, 0x995, 0x9bc, 0x9cd, 0x964, 0x200c, 0x200d, 0x984, 0xe01, -1, end)
	for _, us := range rows(3, steps...) {
		encoding(t, iscii.Encode())(us)
	}
	hold := encoding(t, iscii.Encode())
	for _, us := range rows(4, steps...) {
		hold(us)
	}
}

func TestEveryTwoBytes(t *testing.T) { // P18.1
	hold := decoding(t, iscii.Decode())
	for a := -1; a <= 0x100; a++ {
		for b := -1; b <= 0x100; b++ {
			hold(units(a, b))
			if (a+b)%3 == 0 {
				hold(units(end))
			}
		}
	}
}

func TestEveryScalar(t *testing.T) { // P18.2
	hold := encoding(t, iscii.Encode())
	for s := -0x3000; s < 0x113000; s++ {
		hold(units(s))
	}
	// Every letter behind every other one of its script, and behind one of each other script.
	for a := 0x900; a < 0xd80; a++ {
		for b := a &^ 0x7f; b < a&^0x7f+0x80; b++ {
			hold(units(a, b))
		}
		for b := 0x900 + a&0x7f; b < 0xd80; b += 0x80 {
			hold(units(a, b, end))
		}
	}
}

// wholeRead is what all bytes mean at once, the longest rules from the left.
func wholeRead(x *table.Table, us []int) []api.Token {
	ts := x.Decode(us)
	script := 0
	for k, y := range ts {
		ts[k].Out = nil
		for _, u := range y.Out {
			switch {
			case u >= 0x2000:
				ts[k].Out = append(ts[k].Out, u-0x2000)
			case u >= 0x1000:
				script = u - 0x1000
			default:
				ts[k].Out = append(ts[k].Out, 0x900+0x80*script+u)
			}
		}
	}
	return ts
}

// wholeWritten is the tokens of all scalars at once: those of each part of one script by itself, with the switches between.
func wholeWritten(x *table.Table, ss []int) []api.Token {
	var ts []api.Token
	var part []int
	from, script := 0, indic.Devanagari
	write := func() {
		for _, y := range x.Encode(part) {
			y.At += from
			ts = append(ts, y)
		}
		from, part = from+len(part), nil
	}
	for k, s := range ss {
		unit := s + 0x2000
		if of, place, ok := indic.Of(s); ok {
			if of != script {
				write()
				code, _ := indic.Code(of)
				ts, script = append(ts, turn(k, code)), of
			}
			unit = place
		}
		part = append(part, unit)
	}
	write()
	return ts
}

// rolls are numbers that look like none in particular, always the same ones.
func rolls(seed uint32) func(n int) int {
	return func(n int) int {
		seed = seed*1664525 + 1013904223
		return int(seed>>8) % n
	}
}

func TestPartsAreAsTheWhole(t *testing.T) { // T1: P18.1, P18.2
	x, roll := of(t), rolls(18)
	usual := scalars("aB \u0915\u093c\u094d\u094d\u0958\u0964\u093d\u0952\u0970\u200c\u200d\u0995\u09bc\u09cd\u0984\u0c15\u0c4d\u0d7f\u0e01")
	for range 500 {
		var us, ss []int
		for range roll(60) {
			us = append(us, units(roll(0x100), 0x80+roll(0x80), 0xe7+roll(4), 0xef, 0x41+roll(10))[roll(5)])
			ss = append(ss, units(roll(0x80), 0x900+roll(0x480), usual[roll(len(usual))], 0xd7ff, usual[roll(len(usual))])[roll(5)])
		}
		if got, want := machine.All(iscii.Decode(), us), wholeRead(x, us); !same(got, want) {
			t.Fatalf("%x is read as %x, not %x", us, got, want)
		}
		if got, want := machine.All(iscii.Encode(), ss), wholeWritten(x, ss); !same(got, want) {
			t.Fatalf("%x is written as %x, not %x", ss, got, want)
		}
	}
}

func TestWhatIsWrittenIsRead(t *testing.T) { // T2, T3: P18.1, P18.2
	roll := rolls(81)
	n := 0
	for range 1500 {
		var us, ss []int
		for range 1 + roll(12) {
			us = append(us, units(roll(0x80), 0xa1+roll(0x5a), 0xe7+roll(4), 0xef, 0x42+roll(10))[roll(5)])
			ss = append(ss, units(roll(0x80), 0x905+0x80*roll(9), 0x93c+0x80*roll(3), 0x94d+0x80*roll(3), 0x200c+roll(2), 0x964)[roll(6)])
		}
		if out, wrong := rewrite.Units(machine.All(iscii.Encode(), ss)); wrong.Err == 0 {
			n++
			back, fault := rewrite.Units(machine.All(iscii.Decode(), out))
			if !slices.Equal(back, ss) || fault.Err != 0 {
				t.Fatalf("%x is written as %x, which is read as %x, %x", ss, out, back, fault)
			}
		}
		meant, wrong := rewrite.Units(machine.All(iscii.Decode(), us))
		if wrong.Err != 0 {
			continue
		}
		// It may be that what was read can't be written, where a switch that was redundant parted two letters.
		out, wrong := rewrite.Units(machine.All(iscii.Encode(), meant))
		if wrong.Err != 0 {
			continue
		}
		n++
		again, fault := rewrite.Units(machine.All(iscii.Decode(), out))
		twice, worse := rewrite.Units(machine.All(iscii.Encode(), again))
		if !slices.Equal(again, meant) || fault.Err != 0 || !slices.Equal(twice, out) || worse.Err != 0 {
			t.Fatalf("%x is read as %x, written as %x, read as %x, %x, written as %x, %x", us, meant, out, again, fault, twice, worse)
		}
	}
	if n < 500 {
		t.Error(n)
	}
}

func TestNoSwitchIsRedundant(t *testing.T) { // T3: P18.2
	roll := rolls(9)
	e := iscii.Encode()
	d := iscii.Decode()
	for range 20000 {
		s := units(roll(0x80), 0x900+roll(0x480), 0x964, 0x905+0x80*roll(9))[roll(4)]
		before := e.Script()
		ts := e.Put(s)
		of, _, ok := indic.Of(s)
		turns := 0
		for _, x := range ts {
			if x.Len == 0 {
				turns++
			}
			run(d, x.Out...)
		}
		if want := ok && of != before; (turns == 1) != want || turns > 1 {
			t.Fatalf("%x behind script %d has %d switches", s, before, turns)
		}
		if ok && e.Script() != of || !ok && e.Script() != before || d.Script() != e.Script() {
			t.Fatalf("%x behind script %d: %d, %d", s, before, e.Script(), d.Script())
		}
	}
}

func TestALongRow(t *testing.T) { // P18.1, P18.2, W1
	const size = 1 << 18
	e, d := iscii.Encode(), iscii.Decode()
	tokens(t, e.Put(0x94d))
	tokens(t, run(d, 0xef, 0x42, 0xe8), good(0, 2))
	for k := 1; k < size; k++ {
		// A halant of each script in turn: it waits, and is told ahead of the next switch.
		script, ahead := k%9, (k-1)%9
		code, _ := indic.Code(indic.Script(script))
		tokens(t, e.Put(0x94d+0x80*script), good(k-1, 1, 0xe8), turn(k, code))
		stands(t, e, 1, indic.Script(script))
		tokens(t, run(d, 0xef, code, 0xe8), good(3*k-1, 1, 0x94d+0x80*ahead), good(3*k, 2))
		stands(t, d, 1, indic.Script(script))
	}
}

func TestZeroOnes(t *testing.T) { // P18.1, P18.2, W1: they are new ones
	for _, us := range [][]int{{end}, {0xb3, end}, {0xef, 0x43, 0xb3, 0xe9}, {-1, 0x80}} {
		decoding(t, &iscii.Decoder{})(us)
		stands(t, &iscii.Decoder{}, 0, indic.Devanagari)
	}
	for _, ss := range [][]int{{end}, {0x94d, end}, {0x995, 0x9bc}, {0x9cd, 0x200c}, {-1, 0xe01}} {
		encoding(t, &iscii.Encoder{})(ss)
		stands(t, &iscii.Encoder{}, 0, indic.Devanagari)
	}
}

func TestNothingIsShared(t *testing.T) { // P18.1, P18.2, W2, W6
	d, d2, e, e2 := iscii.Decode(), iscii.Decode(), iscii.Encode(), iscii.Encode()
	run(d, 0xef, 0x43, 0xb3)
	run(e, 0x995, 0x9cd)
	stands(t, d2, 0, indic.Devanagari)
	stands(t, e2, 0, indic.Devanagari)
	tokens(t, run(d2, 0xe9, 0xa2), good(0, 1, 0x93c), good(1, 1, 0x902))
	tokens(t, run(e2, 0x200c, 0x905), bad(0), good(1, 1, 0xa4))
	stands(t, d, 1, indic.Bengali)
	stands(t, e, 1, indic.Bengali)
	tokens(t, d.End(), good(2, 1, 0x995))
	tokens(t, e.End(), good(1, 1, 0xe8))
	// Whatever becomes of tokens that were told, later ones are what they would be.
	for k := range 3 {
		ts := run(e, 0x915, 0x995)
		tokens(t, ts, turn(2+2*k, 0x42), good(2+2*k, 1, 0xb3), turn(3+2*k, 0x43), good(3+2*k, 1, 0xb3))
		more := run(d, 0xe8, 0xe8)
		tokens(t, more, good(3+2*k, 2, 0x9cd, 0x200c))
		for _, x := range append(ts, more...) {
			x.Out[0], x.Out = -1, append(x.Out, 7)
		}
		tokens(t, ts, api.Token{At: 2 + 2*k, Out: units(-1, 0x42)}, good(2+2*k, 1, -1), api.Token{At: 3 + 2*k, Out: units(-1, 0x43)}, good(3+2*k, 1, -1))
	}
	tokens(t, run(e, 0x9bc), bad(8))
	// No row of tokens has room that another one uses.
	ts := run(e, 'a', 0x915)
	first := e.Put(0x9bc)
	_ = append(first[:1], bad(99))
	second := e.Put(0x917)
	tokens(t, ts, good(9, 1, 'a'), turn(10, 0x42), good(10, 1, 0xb3))
	tokens(t, second, turn(12, 0x42), good(12, 1, 0xb5))
}
