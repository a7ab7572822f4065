package viet_test

import (
	"math"
	"slices"
	"strconv"
	"strings"
	"testing"
	"unicode"

	"lontar/viet"
)

// chapter is the table as the chapter has it: base, mark, and the scalars by tone.
const chapter = `
a | | 61 e0 e1 1ea3 e3 1ea1
a | breve | 103 1eb1 1eaf 1eb3 1eb5 1eb7
a | circumflex | e2 1ea7 1ea5 1ea9 1eab 1ead
e | | 65 e8 e9 1ebb 1ebd 1eb9
e | circumflex | ea 1ec1 1ebf 1ec3 1ec5 1ec7
i | | 69 ec ed 1ec9 129 1ecb
o | | 6f f2 f3 1ecf f5 1ecd
o | circumflex | f4 1ed3 1ed1 1ed5 1ed7 1ed9
o | horn | 1a1 1edd 1edb 1edf 1ee1 1ee3
u | | 75 f9 fa 1ee7 169 1ee5
u | horn | 1b0 1eeb 1ee9 1eed 1eef 1ef1
y | | 79 1ef3 fd 1ef7 1ef9 1ef5
d | | 64
d | stroke | 111
`

// marks are the numbers of the marks, by the words of the table.
func marks() map[string]float64 {
	return map[string]float64{"": 0, "breve": 1, "circumflex": 2, "horn": 3, "stroke": 4}
}

// letters are all letters and their scalars, read off the chapter's table.
func letters(t *testing.T) ([]viet.Letter, []int) {
	t.Helper()
	var small, great []viet.Letter
	var low, high []int
	for _, line := range strings.Split(strings.TrimSpace(chapter), "\n") {
		f := strings.Split(line, "|")
		base := int(f[0][0])
		mark, is := marks()[strings.TrimSpace(f[1])]
		if !is {
			t.Fatal(line)
		}
		for tone, x := range strings.Fields(f[2]) {
			s, err := strconv.ParseInt(x, 16, 64)
			if err != nil {
				t.Fatal(err)
			}
			sign := complex(mark, float64(tone))
			up := int(s) - 1
			if s < 0x100 {
				up = int(s) - 0x20
			}
			small, low = append(small, viet.Letter{Base: base, Sign: sign}), append(low, int(s))
			great, high = append(great, viet.Letter{Base: base - 0x20, Sign: sign}), append(high, up)
		}
	}
	if len(small) != 74 || len(great) != 74 {
		t.Fatal(len(small), len(great))
	}
	return append(small, great...), append(low, high...)
}

// scalars are those of the letters of the chapter.
func scalars(t *testing.T) map[viet.Letter]int {
	t.Helper()
	ls, ss := letters(t)
	all := map[viet.Letter]int{}
	for k, l := range ls {
		all[l] = ss[k]
	}
	if len(all) != 148 {
		t.Fatal(len(all))
	}
	return all
}

// odd are numbers that are no mark and no tone.
func odd() []float64 {
	return []float64{-1, -2, 0.5, 1.5, 2.25, 4.75, -0.5, 1e-300, math.SmallestNonzeroFloat64, math.Nextafter(1, 2), math.Nextafter(2, 1), 6, 7, 257, 1 << 32, 1 << 53, 1e300, math.MaxFloat64, math.Inf(1), math.Inf(-1), math.NaN()}
}

// parts are numbers for a part of a sign: those that are marks or tones, and others.
func parts() []float64 {
	return append([]float64{0, 1, 2, 3, 4, 5, math.Copysign(0, -1)}, odd()...)
}

// bases are all numbers around the ASCII letters, and others with the low bits of some.
func bases() []int {
	bs := []int{math.MinInt, math.MinInt + 'a', math.MaxInt, math.MinInt32, math.MaxInt32, 1<<32 + 'o', 1<<8 + 'a', 1<<16 + 'E', 1<<63 - 1 - 'u', 'a' - 256, 0xe0, 0x103, 0x111, 0x1b0, 0x1af, 0x1ea1}
	for b := -0x21; b < 0x100; b++ {
		bs = append(bs, b)
	}
	return bs
}

// same tells whether two letters are the same, a part that is not a number too.
func same(a, b viet.Letter) bool {
	part := func(x, y float64) bool { return x == y || math.IsNaN(x) && math.IsNaN(y) }
	return a.Base == b.Base && part(real(a.Sign), real(b.Sign)) && part(imag(a.Sign), imag(b.Sign))
}

func TestConstants(t *testing.T) { // the chapter's list of them
	for k, z := range []complex128{viet.Breve, viet.Circumflex, viet.Horn, viet.Stroke} {
		if z != complex(float64(k+1), 0) {
			t.Errorf("mark %d is %v", k+1, z)
		}
	}
	for k, z := range []complex128{viet.Grave, viet.Acute, viet.Hook, viet.Tilde, viet.Dot} {
		if z != complex(0, float64(k+1)) {
			t.Errorf("tone %d is %v", k+1, z)
		}
	}
}

func TestUpperByName(t *testing.T) { // P9.1, W1, W5: of whatever number, a letter or not
	for s, want := range map[int]int{
		'a': 'A', 'd': 'D', 'y': 'Y', 0xe0: 0xc0, 0xfd: 0xdd, 0x103: 0x102, 0x111: 0x110, 0x129: 0x128, 0x1a1: 0x1a0, 0x1b0: 0x1af, 0x1ea1: 0x1ea0, 0x1ef9: 0x1ef8,
		0: -0x20, 1: -0x1f, 0x1f: -1, 0x20: 0, 0x40: 0x20, 'A': 0x21, 0x63: 0x43, 0x65: 0x45, 0x7f: 0x5f, 0x80: 0x60, 0xfe: 0xde, 0xff: 0xdf,
		0x100: 0xff, 0x101: 0x100, 0x102: 0x101, 0xffff: 0xfffe, 0x10ffff: 0x10fffe, 0x110000: 0x10ffff, 1 << 32: 1<<32 - 1, math.MaxInt: math.MaxInt - 1,
		-1: -0x21, -0x100: -0x120, math.MinInt32: math.MinInt32 - 0x20, math.MinInt + 0x20: math.MinInt, math.MinInt + 0x1f: math.MaxInt, math.MinInt: math.MaxInt - 0x1f,
	} {
		for range 2 {
			if got := viet.Upper(s); got != want {
				t.Errorf("Upper of %#x is %#x, not %#x", s, got, want)
			}
		}
	}
}

func TestUpperOfManyNumbers(t *testing.T) { // P9.1
	for s := -0x400; s < 0x3000; s++ {
		want := s - 1
		if s < 0x100 {
			want = s - 0x20
		}
		if got := viet.Upper(s); got != want {
			t.Errorf("Upper of %#x is %#x, not %#x", s, got, want)
		}
	}
}

func TestUpperOfLetters(t *testing.T) { // P9.1: what Unicode says of the small letters
	_, ss := letters(t)
	for _, s := range ss[:74] {
		if got, want := viet.Upper(s), int(unicode.ToUpper(rune(s))); got != want {
			t.Errorf("Upper of %#x is %#x, not %#x", s, got, want)
		}
	}
}

func TestAll(t *testing.T) { // P9.1, W2
	wantLetters, wantScalars := letters(t)
	for range 2 {
		ls, ss := viet.All()
		if len(ls) != 148 || len(ss) != 148 {
			t.Fatal(len(ls), len(ss))
		}
		for k := range ls {
			if ls[k] != wantLetters[k] || ss[k] != wantScalars[k] {
				t.Errorf("letter %d is %v of %#x, not %v of %#x", k, ls[k], ss[k], wantLetters[k], wantScalars[k])
			}
		}
	}
}

func TestAllByText(t *testing.T) { // P9.1: the letters read a second time, as text
	small := "aàáảãạ" + "ăằắẳẵặ" + "âầấẩẫậ" + "eèéẻẽẹ" + "êềếểễệ" + "iìíỉĩị" + "oòóỏõọ" + "ôồốổỗộ" + "ơờớởỡợ" + "uùúủũụ" + "ưừứửữự" + "yỳýỷỹỵ" + "dđ"
	great := "AÀÁẢÃẠ" + "ĂẰẮẲẴẶ" + "ÂẦẤẨẪẬ" + "EÈÉẺẼẸ" + "ÊỀẾỂỄỆ" + "IÌÍỈĨỊ" + "OÒÓỎÕỌ" + "ÔỒỐỔỖỘ" + "ƠỜỚỞỠỢ" + "UÙÚỦŨỤ" + "ƯỪỨỬỮỰ" + "YỲÝỶỸỴ" + "DĐ"
	var want []int
	for _, r := range small + great {
		want = append(want, int(r))
	}
	if _, ss := viet.All(); !slices.Equal(ss, want) {
		t.Errorf("%x, not %x", ss, want)
	}
}

func TestAllIsNewMemory(t *testing.T) { // W6
	ls, ss := viet.All()
	for k := range ls {
		ls[k], ss[k] = viet.Letter{Base: -1, Sign: viet.Dot}, -1
	}
	_, _ = append(ls, viet.Letter{}), append(ss, 0)
	wantLetters, wantScalars := letters(t)
	if ls, ss := viet.All(); !slices.Equal(ls, wantLetters) || !slices.Equal(ss, wantScalars) {
		t.Error("what was done to an answer is in the next one")
	}
	if s, ok := viet.Join(viet.Letter{Base: 'a'}); s != 'a' || !ok {
		t.Errorf("%#x, %t", s, ok)
	}
	if l, ok := viet.Split('a'); l != (viet.Letter{Base: 'a'}) || !ok {
		t.Error(l, ok)
	}
}

// joined holds one answer of Join.
func joined(t *testing.T, l viet.Letter, want int, is bool) {
	t.Helper()
	if s, ok := viet.Join(l); s != want || ok != is {
		t.Errorf("Join of %v is %#x, %t, not %#x, %t", l, s, ok, want, is)
	}
}

// parted holds one answer of Split.
func parted(t *testing.T, s int, want viet.Letter, is bool) {
	t.Helper()
	if l, ok := viet.Split(s); l != want || ok != is {
		t.Errorf("Split of %#x is %v, %t, not %v, %t", s, l, ok, want, is)
	}
}

func TestJoinAndSplitByName(t *testing.T) { // P9.2
	for s, l := range map[int]viet.Letter{
		0x1ebf: {Base: 'e', Sign: viet.Circumflex + viet.Acute},
		0x1ebe: {Base: 'E', Sign: viet.Circumflex + viet.Acute},
		'a':    {Base: 'a'},
		'Y':    {Base: 'Y'},
		'd':    {Base: 'd'},
		'D':    {Base: 'D'},
		0x111:  {Base: 'd', Sign: viet.Stroke},
		0x110:  {Base: 'D', Sign: viet.Stroke},
		0x103:  {Base: 'a', Sign: viet.Breve},
		0x1eb7: {Base: 'a', Sign: viet.Breve + viet.Dot},
		0x1a0:  {Base: 'O', Sign: viet.Horn},
		0x1b0:  {Base: 'u', Sign: viet.Horn},
		0x1af:  {Base: 'U', Sign: viet.Horn},
		0x1eef: {Base: 'u', Sign: viet.Horn + viet.Tilde},
		0xec:   {Base: 'i', Sign: viet.Grave},
		0x128:  {Base: 'I', Sign: viet.Tilde},
		0x1ec9: {Base: 'i', Sign: viet.Hook},
		0x1ef4: {Base: 'Y', Sign: viet.Dot},
	} {
		for range 2 {
			joined(t, l, s, true)
			parted(t, s, l, true)
		}
	}
}

func TestJoinOfWhatIsNoLetter(t *testing.T) { // P9.2, W3
	for _, l := range []viet.Letter{
		{}, {Sign: viet.Acute}, {Base: 'b'}, {Base: 'x', Sign: viet.Acute}, {Base: ' '}, {Base: '0'},
		{Base: 'e', Sign: viet.Breve}, {Base: 'e', Sign: viet.Horn}, {Base: 'i', Sign: viet.Circumflex}, {Base: 'y', Sign: viet.Horn}, {Base: 'a', Sign: viet.Horn}, {Base: 'o', Sign: viet.Breve}, {Base: 'u', Sign: viet.Circumflex}, {Base: 'a', Sign: viet.Stroke}, {Base: 'd', Sign: viet.Horn},
		{Base: 'd', Sign: viet.Grave}, {Base: 'd', Sign: viet.Dot}, {Base: 'd', Sign: viet.Stroke + viet.Acute}, {Base: 'D', Sign: viet.Stroke + viet.Grave}, // without tones
		{Base: 'a', Sign: 6i}, {Base: 'a', Sign: -1i}, {Base: 'o', Sign: 5}, {Base: 'o', Sign: -1}, {Base: 'e', Sign: 2.5}, {Base: 'e', Sign: 2 + 1.5i},
		{Base: 0xea, Sign: viet.Acute}, {Base: 0x103}, {Base: 0xe0}, {Base: 0x111}, // a base is an ASCII letter
		{Base: 'e', Sign: complex(math.NaN(), 0)}, {Base: 'e', Sign: complex(2, math.Inf(1))},
	} {
		joined(t, l, 0, false)
	}
}

func TestJoinOfMany(t *testing.T) { // P9.2, W1, W10
	all := scalars(t)
	n := 0
	for _, b := range bases() {
		for _, x := range parts() {
			for _, y := range parts() {
				l := viet.Letter{Base: b, Sign: complex(x, y)}
				s, is := all[l]
				if is {
					n++
				}
				joined(t, l, s, is)
			}
		}
	}
	// 0 is among the parts twice, once with the other sign: a letter with neither mark nor tone is met four times, one without one of them twice.
	plain, half, full := 14, 2*(6*5+7), 2*(6*5)
	if want := 4*plain + 2*half + full; n != want {
		t.Errorf("%d letters were met, not %d", n, want)
	}
}

func TestSplitOfMany(t *testing.T) { // P9.2, W1, W3
	ls, ss := letters(t)
	all := map[int]viet.Letter{}
	for k, s := range ss {
		all[s] = ls[k]
	}
	if len(all) != 148 {
		t.Fatal(len(all))
	}
	for s := -0x2000; s <= 0x110100; s++ {
		l, is := all[s]
		parted(t, s, l, is)
	}
	for _, s := range []int{math.MinInt, math.MinInt + 1, math.MinInt32, math.MaxInt32, math.MaxInt - 1, math.MaxInt} {
		parted(t, s, viet.Letter{}, false)
	}
	// These have the low bits of a letter's scalar.
	for s := range all {
		for bit := 21; bit < 64; bit++ {
			parted(t, s|1<<bit, viet.Letter{}, false)
			parted(t, s-1<<bit, viet.Letter{}, false)
		}
	}
}

func TestSplitAndJoinGoTogether(t *testing.T) { // P9.2
	ls, ss := viet.All()
	for k, l := range ls {
		joined(t, l, ss[k], true)
		parted(t, ss[k], l, true)
	}
}

// combining are the combining scalars and their signs, as P9.2 has them.
func combining() map[int]complex128 {
	return map[int]complex128{0x306: viet.Breve, 0x302: viet.Circumflex, 0x31b: viet.Horn, 0x300: viet.Grave, 0x301: viet.Acute, 0x309: viet.Hook, 0x303: viet.Tilde, 0x323: viet.Dot}
}

func TestSign(t *testing.T) { // P9.2, W1 to W3
	all := combining()
	held := func(s int) {
		want, is := all[s]
		for range 2 {
			if z, ok := viet.Sign(s); z != want || ok != is {
				t.Errorf("Sign of %#x is %v, %t, not %v, %t", s, z, ok, want, is)
			}
		}
	}
	for s := -0x1000; s <= 0x3000; s++ {
		held(s)
	}
	for _, s := range []int{math.MinInt, math.MinInt32, 0xfffd, 0x10ffff, 0x110000, math.MaxInt32, math.MaxInt} {
		held(s)
	}
	for s := range all {
		for bit := 11; bit < 64; bit++ {
			held(s | 1<<bit)
			held(s - 1<<bit)
		}
	}
}

// added holds one answer of Add.
func added(t *testing.T, l viet.Letter, sign complex128, want viet.Letter, is bool) {
	t.Helper()
	if got, ok := viet.Add(l, sign); !same(got, want) || ok != is {
		t.Errorf("Add of %v to %v is %v, %t, not %v, %t", sign, l, got, ok, want, is)
	}
}

func TestAddByName(t *testing.T) { // P9.3
	for _, x := range []struct {
		l    viet.Letter
		sign complex128
		want viet.Letter
		is   bool
	}{
		{viet.Letter{Base: 'e', Sign: viet.Acute}, viet.Circumflex, viet.Letter{Base: 'e', Sign: 2 + 2i}, true},
		{viet.Letter{Base: 'e', Sign: viet.Circumflex}, viet.Acute, viet.Letter{Base: 'e', Sign: 2 + 2i}, true},
		{viet.Letter{Base: 'U'}, viet.Horn, viet.Letter{Base: 'U', Sign: 3}, true},
		{viet.Letter{Base: 'U'}, viet.Horn + viet.Dot, viet.Letter{Base: 'U', Sign: 3 + 5i}, true}, // both at once
		{viet.Letter{Base: 'd'}, viet.Stroke, viet.Letter{Base: 'd', Sign: 4}, true},
		{viet.Letter{Base: 'a'}, 0, viet.Letter{Base: 'a'}, true}, // a sign of nothing
		{viet.Letter{Base: 'a', Sign: 1 + 1i}, 0, viet.Letter{Base: 'a', Sign: 1 + 1i}, true},
		{viet.Letter{Base: 'x'}, 0, viet.Letter{Base: 'x'}, false}, // no letter, and no letter with it
		{viet.Letter{}, 0, viet.Letter{}, false},
		{viet.Letter{}, viet.Acute, viet.Letter{}, false},
		{viet.Letter{Base: 'd'}, viet.Acute, viet.Letter{Base: 'd'}, false},
		{viet.Letter{Base: 'd', Sign: viet.Stroke}, viet.Dot, viet.Letter{Base: 'd', Sign: 4}, false},
		{viet.Letter{Base: 'i', Sign: viet.Grave}, viet.Circumflex, viet.Letter{Base: 'i', Sign: 1i}, false},
		{viet.Letter{Base: 'e'}, viet.Breve, viet.Letter{Base: 'e'}, false},
		{viet.Letter{Base: 'a', Sign: viet.Breve}, viet.Breve, viet.Letter{Base: 'a', Sign: 1}, false},      // the sum is a circumflex
		{viet.Letter{Base: 'o', Sign: viet.Breve}, viet.Circumflex, viet.Letter{Base: 'o', Sign: 1}, false}, // the sum is a horn
		{viet.Letter{Base: 'a', Sign: viet.Circumflex}, -1, viet.Letter{Base: 'a', Sign: 2}, false},         // the sum is a breve
		{viet.Letter{Base: 'a', Sign: viet.Circumflex}, -2, viet.Letter{Base: 'a', Sign: 2}, false},         // the sum is nothing
		{viet.Letter{Base: 'o', Sign: viet.Grave}, viet.Acute, viet.Letter{Base: 'o', Sign: 1i}, false},     // the sum is a hook
		{viet.Letter{Base: 'o', Sign: viet.Dot}, -5i, viet.Letter{Base: 'o', Sign: 5i}, false},
		{viet.Letter{Base: 'a', Sign: 0.5}, 0.5, viet.Letter{Base: 'a', Sign: 0.5}, false},
		{viet.Letter{Base: 'a', Sign: viet.Breve}, 1e-300, viet.Letter{Base: 'a', Sign: 1}, false}, // the sum is a breve
		{viet.Letter{Base: 'o', Sign: viet.Horn}, viet.Circumflex + viet.Acute, viet.Letter{Base: 'o', Sign: 3}, false},
		{viet.Letter{Base: 'o', Sign: viet.Acute}, viet.Circumflex + viet.Acute, viet.Letter{Base: 'o', Sign: 2i}, false},
		{viet.Letter{Base: 'b', Sign: 7 - 2i}, viet.Acute, viet.Letter{Base: 'b', Sign: 7 - 2i}, false}, // comes back as it was
	} {
		for range 2 {
			added(t, x.l, x.sign, x.want, x.is)
		}
	}
}

// addition is what P9.3 says of a letter and a sign, with the chapter's letters.
func addition(all map[viet.Letter]int, l viet.Letter, sign complex128) (viet.Letter, bool) {
	mark, tone := real(l.Sign), imag(l.Sign)
	if mark != 0 && real(sign) != 0 || tone != 0 && imag(sign) != 0 {
		return l, false
	}
	if mark == 0 {
		mark = real(sign)
	}
	if tone == 0 {
		tone = imag(sign)
	}
	together := viet.Letter{Base: l.Base, Sign: complex(mark, tone)}
	if _, is := all[together]; !is {
		return l, false
	}
	return together, true
}

func TestAddToEveryLetter(t *testing.T) { // P9.3, W1, W10
	all := scalars(t)
	more := append(parts(), -3, -4, -5)
	for l := range all {
		for _, x := range more {
			for _, y := range more {
				sign := complex(x, y)
				want, is := addition(all, l, sign)
				added(t, l, sign, want, is)
			}
		}
	}
}

func TestAddToWhatIsNoLetter(t *testing.T) { // P9.3, W1: no sign makes one of what has a wrong part, nor of another base
	all := scalars(t)
	signs := []complex128{0, viet.Breve, viet.Circumflex, viet.Horn, viet.Stroke, viet.Grave, viet.Acute, viet.Hook, viet.Tilde, viet.Dot, 2 + 2i, 0.5, 0.5i, -1, -1i, complex(math.NaN(), 0), complex(0, math.NaN()), complex(math.Inf(1), math.Inf(-1))}
	for _, b := range bases() {
		for _, x := range parts() {
			for _, y := range []float64{0, 1, 5, 6, -1, 0.5, math.NaN(), math.Inf(1)} {
				l := viet.Letter{Base: b, Sign: complex(x, y)}
				for _, sign := range signs {
					want, is := addition(all, l, sign)
					added(t, l, sign, want, is)
				}
			}
		}
	}
}

func TestSignsOfScalarsInEitherOrder(t *testing.T) { // P9.2, P9.3: a mark and a tone, whichever comes first
	ls, ss := letters(t)
	for k, want := range ls {
		var signs []int
		for s, z := range combining() {
			if z == complex(real(want.Sign), 0) || z == complex(0, imag(want.Sign)) {
				signs = append(signs, s)
			}
		}
		slices.Sort(signs)
		base := viet.Letter{Base: want.Base}
		if real(want.Sign) == viet.Stroke {
			base.Sign = viet.Stroke // no scalar adds a stroke
		}
		for range 2 {
			l, ok := base, true
			for _, s := range signs {
				z, is := viet.Sign(s)
				if l, ok = viet.Add(l, z); !ok || !is {
					t.Errorf("%x to %v", signs, base)
				}
			}
			if l != want {
				t.Errorf("%x to %v is %v", signs, base, l)
			}
			joined(t, l, ss[k], true)
			slices.Reverse(signs)
		}
	}
}
