package vcanon_test

import (
	"math"
	"slices"
	"strconv"
	"testing"

	"lontar/vcanon"
)

// parts is a letter in parts: its base, and the scalars of its mark and of its tone (0: it has none). A stroke belongs to the base, for no scalar adds it.
type parts struct {
	base, mark, tone int
}

// rows are the letters as text, each row by tone: none, grave, acute, hook, tilde, dot.
func rows() []struct {
	text       string
	base, mark int
} {
	return []struct {
		text       string
		base, mark int
	}{
		{"aàáảãạ", 'a', 0}, {"ăằắẳẵặ", 'a', 0x306}, {"âầấẩẫậ", 'a', 0x302}, {"eèéẻẽẹ", 'e', 0}, {"êềếểễệ", 'e', 0x302}, {"iìíỉĩị", 'i', 0}, {"oòóỏõọ", 'o', 0}, {"ôồốổỗộ", 'o', 0x302}, {"ơờớởỡợ", 'o', 0x31b}, {"uùúủũụ", 'u', 0}, {"ưừứửữự", 'u', 0x31b}, {"yỳýỷỹỵ", 'y', 0}, {"d", 'd', 0}, {"đ", 0x111, 0},
		{"AÀÁẢÃẠ", 'A', 0}, {"ĂẰẮẲẴẶ", 'A', 0x306}, {"ÂẦẤẨẪẬ", 'A', 0x302}, {"EÈÉẺẼẸ", 'E', 0}, {"ÊỀẾỂỄỆ", 'E', 0x302}, {"IÌÍỈĨỊ", 'I', 0}, {"OÒÓỎÕỌ", 'O', 0}, {"ÔỒỐỔỖỘ", 'O', 0x302}, {"ƠỜỚỞỠỢ", 'O', 0x31b}, {"UÙÚỦŨỤ", 'U', 0}, {"ƯỪỨỬỮỰ", 'U', 0x31b}, {"YỲÝỶỸỴ", 'Y', 0}, {"D", 'D', 0}, {"Đ", 0x110, 0},
	}
}

// marks and tones are the scalars that P10.3 names, in its order.
func marks() []int { return []int{0x306, 0x302, 0x31b} }
func tones() []int { return []int{0x300, 0x301, 0x309, 0x303, 0x323} }

// letters are all letters in parts, by their scalars.
func letters(t *testing.T) map[int]parts {
	t.Helper()
	all := map[int]parts{}
	for _, r := range rows() {
		for k, s := range []rune(r.text) {
			x := parts{base: r.base, mark: r.mark}
			if k > 0 {
				x.tone = tones()[k-1]
			}
			all[int(s)] = x
		}
	}
	if len(all) != 148 {
		t.Fatal(len(all))
	}
	return all
}

// model composes whole rows, by the letters of the text.
type model struct {
	letters map[int]parts
	scalars map[parts]int
}

func newModel(t *testing.T) *model {
	t.Helper()
	m := &model{letters: letters(t), scalars: map[parts]int{}}
	for s, x := range m.letters {
		m.scalars[x] = s
	}
	if len(m.scalars) != 148 {
		t.Fatal(len(m.scalars))
	}
	return m
}

// add is the scalar of a letter with a sign more; 0: there is none.
func (m *model) add(letter, sign int) int {
	x := m.letters[letter]
	switch {
	case slices.Contains(marks(), sign) && x.mark == 0:
		x.mark = sign
	case slices.Contains(tones(), sign) && x.tone == 0:
		x.tone = sign
	default:
		return 0
	}
	return m.scalars[x]
}

// row is what becomes of scalars, and whether the last of it waits.
func (m *model) row(ss []int) (out []int, waits bool) {
	for at := 0; at < len(ss); {
		s := ss[at]
		at++
		_, waits = m.letters[s]
		for waits && at < len(ss) {
			sum := m.add(s, ss[at])
			if sum == 0 {
				break
			}
			s = sum
			at++
		}
		out = append(out, s)
	}
	return out, waits
}

// apart is P10.3 of one scalar.
func (m *model) apart(s int) []int {
	x, is := m.letters[s]
	if !is {
		return []int{s}
	}
	out := []int{x.base}
	for _, sign := range []int{x.mark, x.tone} {
		if sign != 0 {
			out = append(out, sign)
		}
	}
	return out
}

// hexes are numbers in hexadecimal, for what a failed test tells.
func hexes(ss []int) string {
	text := "["
	for k, s := range ss {
		if k > 0 {
			text += " "
		}
		text += strconv.FormatInt(int64(s), 16)
	}
	return text + "]"
}

// is holds one answer.
func is(t *testing.T, what string, got []int, want ...int) {
	t.Helper()
	if !slices.Equal(got, want) {
		t.Errorf("%s is %s, not %s", what, hexes(got), hexes(want))
	}
}

// waits holds how many wait.
func waits(t *testing.T, c *vcanon.Canon, want int) {
	t.Helper()
	if got := c.Held(); got != want {
		t.Errorf("%d wait, not %d", got, want)
	}
}

// follow holds every call on a row of scalars, and the row as a whole, against the model.
func follow(t *testing.T, m *model, ss []int) {
	t.Helper()
	var c vcanon.Canon
	var got []int
	for k := range ss {
		got = append(got, c.Put(ss[k])...)
		want, wait := m.row(ss[:k+1])
		n := 0
		if wait {
			n = 1
		}
		if known := want[:len(want)-n]; !slices.Equal(got, known) || c.Held() != n {
			t.Fatalf("of %s there came %s, and %d wait, not %s and %d", hexes(ss[:k+1]), hexes(got), c.Held(), hexes(known), n)
		}
	}
	got = append(got, c.End()...)
	want, _ := m.row(ss)
	if !slices.Equal(got, want) || c.Held() != 0 || len(c.End()) != 0 {
		t.Fatalf("of %s there came %s, and %d wait, not %s", hexes(ss), hexes(got), c.Held(), hexes(want))
	}
	if all := vcanon.All(ss); !slices.Equal(all, want) {
		t.Fatalf("all of %s are %s, not %s", hexes(ss), hexes(all), hexes(want))
	}
}

// others are numbers that are no letters and no signs.
func others() []int {
	return []int{0, 1, '\n', ' ', '0', '@', '[', '`', '{', 'x', 'Z', 'n', 0x7f, 0x80, 0xe4, 0xf1, 0x110 - 1, 0x112, 0x304, 0x308, 0x30a, 0x31a, 0x31c, 0x322, 0x324, 0x340, 0xd800, 0xfffd, 0x10ffff, 0x110000, -1, -'a', -0x301, 1<<32 + 'a', 1<<32 + 0x301, 1<<63 - 1, math.MinInt, math.MinInt + 'a'}
}

func TestTheLetterWaits(t *testing.T) { // P10.1, P10.2
	var c vcanon.Canon
	waits(t, &c, 0)
	is(t, "e", c.Put('e'))
	waits(t, &c, 1)
	is(t, "acute", c.Put(0x301))
	waits(t, &c, 1)
	is(t, "circumflex", c.Put(0x302))
	waits(t, &c, 1)
	is(t, "end", c.End(), 0x1ebf)
	waits(t, &c, 0)
	is(t, "end", c.End())
	waits(t, &c, 0)
}

func TestWhatEndsTheWait(t *testing.T) { // P10.1
	for _, x := range []struct {
		name  string
		ahead []int // all of it waits in one letter
		s     int
		out   []int
		held  int
	}{
		{"another letter", []int{'a'}, 'o', []int{'a'}, 1},
		{"the same letter", []int{'a'}, 'a', []int{'a'}, 1},
		{"a letter behind a sum", []int{'e', 0x302}, 0x1ef1, []int{0xea}, 1},
		{"a letter with a stroke", []int{'U', 0x31b, 0x323}, 0x111, []int{0x1ef0}, 1},
		{"no letter", []int{0x1b0}, 'x', []int{0x1b0, 'x'}, 0},
		{"a space", []int{'Y', 0x303}, ' ', []int{0x1ef8, ' '}, 0},
		{"number 0", []int{'a'}, 0, []int{'a', 0}, 0},
		{"a number below 0", []int{'a'}, -1, []int{'a', -1}, 0},
		{"another mark", []int{'a', 0x306}, 0x302, []int{0x103, 0x302}, 0},
		{"the same mark", []int{'a', 0x306}, 0x306, []int{0x103, 0x306}, 0}, // the sum of their numbers is a circumflex
		{"another tone", []int{0x1ebf}, 0x300, []int{0x1ebf, 0x300}, 0},
		{"the same tone", []int{'o', 0x300}, 0x300, []int{0xf2, 0x300}, 0},
		{"a mark that the base has in no letter", []int{'i'}, 0x306, []int{'i', 0x306}, 0},
		{"a tone behind d", []int{'d'}, 0x301, []int{'d', 0x301}, 0},
		{"a tone behind a stroke", []int{0x110}, 0x323, []int{0x110, 0x323}, 0},
		{"a mark behind a stroke", []int{0x111}, 0x306, []int{0x111, 0x306}, 0},
		{"a combining scalar that is no sign", []int{'a'}, 0x30a, []int{'a', 0x30a}, 0},
		{"a sign behind nothing", nil, 0x301, []int{0x301}, 0},
		{"no letter behind nothing", nil, 'b', []int{'b'}, 0},
		{"number 0 behind nothing", nil, 0, []int{0}, 0},
	} {
		t.Run(x.name, func(t *testing.T) {
			var c vcanon.Canon
			for _, s := range x.ahead {
				is(t, "ahead", c.Put(s))
			}
			is(t, "put", c.Put(x.s), x.out...)
			waits(t, &c, x.held)
			if x.held == 1 {
				is(t, "end", c.End(), x.s)
			}
			is(t, "end", c.End())
		})
	}
}

func TestASignThatWasReturnedIsOver(t *testing.T) { // P10.1: what follows it is added to nothing
	var c vcanon.Canon
	is(t, "i", c.Put('i'))
	is(t, "breve", c.Put(0x306), 'i', 0x306)
	is(t, "acute", c.Put(0x301), 0x301)
	is(t, "a", c.Put('a'))
	is(t, "acute", c.Put(0x301))
	is(t, "end", c.End(), 0xe1)
	is(t, "acute", c.Put(0x301), 0x301)
}

func TestItGoesOnBehindTheEnd(t *testing.T) { // P10.2: then no letter waits, and the next one is as the first
	var c vcanon.Canon
	for range 3 {
		c.Put('o')
		is(t, "end", c.End(), 'o')
		is(t, "horn", c.Put(0x31b), 0x31b)
		is(t, "O", c.Put('O'))
		is(t, "horn", c.Put(0x31b))
		waits(t, &c, 1)
		is(t, "end", c.End(), 0x1a0)
		waits(t, &c, 0)
	}
}

func TestEveryLetterAndEverySign(t *testing.T) { // P10.1, P10.2: two signs, in either order
	m := newModel(t)
	signs := append(marks(), tones()...)
	for s := range m.letters {
		follow(t, m, []int{s})
		for _, a := range signs {
			follow(t, m, []int{s, a})
			for _, b := range signs {
				follow(t, m, []int{s, a, b})
				follow(t, m, []int{s, a, b, s})
			}
		}
		for _, x := range others() {
			follow(t, m, []int{s, x})
			follow(t, m, []int{x, s})
			follow(t, m, []int{s, x, 0x301, s, 0x301})
		}
	}
}

func TestEveryTwoLetters(t *testing.T) { // P10.1
	m := newModel(t)
	for a := range m.letters {
		for b := range m.letters {
			follow(t, m, []int{a, b, 0x323})
		}
	}
}

func TestRowsOfFew(t *testing.T) { // P10.1, P10.2: every row of at most four of these
	m := newModel(t)
	few := []int{'a', 'e', 'i', 'o', 'D', 0x111, 0x1b0, 0xea, 0x1ebf, 'x', 0, 0x306, 0x302, 0x31b, 0x301, 0x323}
	var add func(ss []int)
	add = func(ss []int) {
		follow(t, m, ss)
		if len(ss) == 4 {
			return
		}
		for _, s := range few {
			add(append(slices.Clone(ss), s))
		}
	}
	add(nil)
}

func TestEveryScalar(t *testing.T) { // P10.1, P10.3, W1: alone, behind a letter, apart
	m := newModel(t)
	held := func(s int) {
		var c, d vcanon.Canon
		d.Put('a')
		first, second := append(c.Put(s), c.End()...), append(d.Put(s), d.End()...)
		want, _ := m.row([]int{'a', s})
		if !slices.Equal(first, []int{s}) || !slices.Equal(second, want) {
			t.Errorf("of %x there came %s, and behind a letter %s", s, hexes(first), hexes(second))
		}
		if got := vcanon.Apart([]int{s}); !slices.Equal(got, m.apart(s)) {
			t.Errorf("%x apart is %s, not %s", s, hexes(got), hexes(m.apart(s)))
		}
	}
	for s := -0x1000; s <= 0x110100; s++ {
		held(s)
	}
	for _, s := range append(others(), math.MaxInt, math.MaxInt32, math.MinInt32) {
		held(s)
	}
	for s := range m.letters { // these have the low bits of a letter's scalar
		for bit := 21; bit < 64; bit++ {
			held(s | 1<<bit)
			held(s - 1<<bit)
		}
	}
}

func TestAllByText(t *testing.T) { // P10.2
	for _, x := range []struct{ in, out string }{
		{"", ""},
		{"Tie\u0302\u0301ng Vie\u0323\u0302t", "Tiếng Việt"},
		{"ĐU\u031bO\u031b\u0300NG ha\u0300nh", "ĐƯỜNG hành"},
		{"Ti\u1ebfng", "Tiếng"},
		{"\u0301a\u0301\u0301a", "\u0301á\u0301a"},
		{"a\u0306\u0302 d\u0323", "ă\u0302 d\u0323"},
		{"e", "e"},
		{"xe\u0309", "xẻ"},
	} {
		for range 2 {
			is(t, x.in, vcanon.All(ints(x.in)), ints(x.out)...)
		}
	}
	is(t, "nil", vcanon.All(nil))
	is(t, "empty", vcanon.All([]int{}))
}

// ints are the scalars of a text.
func ints(text string) []int {
	var ss []int
	for _, s := range text {
		ss = append(ss, int(s))
	}
	return ss
}

func TestAllOfALongRow(t *testing.T) { // P10.2: a thousand letters one behind the other, each with its signs
	m := newModel(t)
	var in, want []int
	for k := range 1000 {
		in = append(in, 'a', 0x302, tones()[k%5], tones()[k%4])
		want = append(want, m.scalars[parts{'a', 0x302, tones()[k%5]}], tones()[k%4])
	}
	is(t, "long row", vcanon.All(in), want...)
}

func TestApartByName(t *testing.T) { // P10.3
	for _, x := range []struct{ in, out []int }{
		{nil, nil},
		{[]int{}, nil},
		{[]int{'a'}, []int{'a'}},
		{[]int{'d', 'D'}, []int{'d', 'D'}},
		{[]int{0x111, 0x110}, []int{0x111, 0x110}},
		{[]int{0x103, 0xe2, 0x1a1}, []int{'a', 0x306, 'a', 0x302, 'o', 0x31b}},
		{[]int{0xe0, 0xe1, 0x1ea3, 0xe3, 0x1ea1}, []int{'a', 0x300, 'a', 0x301, 'a', 0x309, 'a', 0x303, 'a', 0x323}},
		{[]int{0x1ebf, 0x1ef0}, []int{'e', 0x302, 0x301, 'U', 0x31b, 0x323}},
		{[]int{0x301, 'x', 0x1ebf, 0x302, 0, -1}, []int{0x301, 'x', 'e', 0x302, 0x301, 0x302, 0, -1}},
	} {
		for range 2 {
			is(t, "apart "+hexes(x.in), vcanon.Apart(x.in), x.out...)
		}
	}
}

func TestApartOfLetters(t *testing.T) { // P10.3: each alone, every two, and all of them
	m := newModel(t)
	var in, want []int
	for s := range m.letters {
		is(t, hexes([]int{s}), vcanon.Apart([]int{s}), m.apart(s)...)
		for x := range m.letters {
			is(t, hexes([]int{s, x}), vcanon.Apart([]int{s, x}), append(m.apart(s), m.apart(x)...)...)
		}
		in, want = append(in, s), append(want, m.apart(s)...)
	}
	is(t, "all", vcanon.Apart(in), want...)
}

func TestTogetherAndApart(t *testing.T) { // T2: once as twice, and what is apart is composed again
	m := newModel(t)
	for s := range m.letters {
		is(t, "composed", vcanon.All(vcanon.Apart([]int{s})), s)
		is(t, "apart twice", vcanon.Apart(vcanon.Apart([]int{s})), m.apart(s)...)
		for _, a := range append(marks(), tones()...) {
			for _, b := range append(others(), 'e', 0x302, 0x301, s) {
				once := vcanon.All([]int{s, a, b})
				is(t, "composed twice", vcanon.All(once), once...)
			}
		}
	}
}

func TestMemory(t *testing.T) { // W6, W7: arguments stay as they are, and answers are one's own
	ss := []int{'e', 0x302, 0x1ebf, 'x', 0x111}
	kept := slices.Clone(ss)
	all, apart := vcanon.All(ss), vcanon.Apart(ss)
	is(t, "argument", ss, kept...)
	for k := range ss {
		ss[k] = 1
	}
	is(t, "all", all, 0xea, 0x1ebf, 'x', 0x111)
	is(t, "apart", apart, 'e', 0x302, 'e', 0x302, 0x301, 'x', 0x111)
	plain := []int{'x', 'b'} // nothing of it changes
	for _, got := range [][]int{vcanon.All(plain), vcanon.Apart(plain)} {
		got[0] = 0
		is(t, "argument", plain, 'x', 'b')
	}

	var c vcanon.Canon
	c.Put('a')
	first := c.Put('x')
	c.Put('o')
	second := c.Put('y')
	third := c.End()
	is(t, "first", first, 'a', 'x')
	is(t, "second", second, 'o')
	is(t, "third", third, 'y')
	first[0], second[0], third[0] = 7, 7, 7
	c.Put('u')
	is(t, "end", c.End(), 'u')
}

func TestEveryCanonIsItsOwn(t *testing.T) { // W2: also a copy
	var c vcanon.Canon
	c.Put('a')
	d := c
	var e vcanon.Canon
	waits(t, &e, 0)
	is(t, "acute", d.Put(0x301))
	is(t, "dot", c.Put(0x323))
	is(t, "acute", e.Put(0x301), 0x301)
	is(t, "end", d.End(), 0xe1)
	waits(t, &c, 1)
	is(t, "end", c.End(), 0x1ea1)
	c.Put('o')
	vcanon.All([]int{'u', 0x31b})
	is(t, "end", c.End(), 'o')
}
