package manor

import (
	"math"
	"testing"

	"manor/api"
)

type span struct{ first, last int }

// documented is the table of DOC.md row by row, with its exceptions.
var documented = []struct {
	kind   int
	spans  []span
	except []int
}{
	{kind: 3, spans: []span{{0x2D, 0x2D}}},
	{kind: 2, spans: []span{{0x30, 0x39}}},
	{kind: 1, spans: []span{{0x61, 0x7A}, {0xDF, 0xF6}, {0xF8, 0xFF}}},
	{kind: 5, spans: []span{{0xB7, 0xB7}}},
	{kind: 4, spans: []span{{0x300, 0x36F}}, except: []int{0x340, 0x341, 0x343, 0x344, 0x34F}},
	{kind: 5, spans: []span{{0x375, 0x375}}},
	{kind: 1, spans: []span{{0x3AC, 0x3CE}}},
	{kind: 1, spans: []span{{0x5D0, 0x5EA}}},
	{kind: 5, spans: []span{{0x5F3, 0x5F3}, {0x5F4, 0x5F4}}},
	{kind: 1, spans: []span{{0x627, 0x627}, {0x62F, 0x632}, {0x648, 0x648}}},
	{kind: 1, spans: []span{{0x628, 0x628}, {0x62A, 0x62E}, {0x633, 0x63A}, {0x641, 0x647}, {0x649, 0x649}, {0x64A, 0x64A}}},
	{kind: 1, spans: []span{{0x629, 0x629}}},
	{kind: 4, spans: []span{{0x64B, 0x652}}},
	{kind: 5, spans: []span{{0x660, 0x669}}},
	{kind: 5, spans: []span{{0x6F0, 0x6F9}}},
	{kind: 1, spans: []span{{0x905, 0x939}}},
	{kind: 4, spans: []span{{0x94D, 0x94D}}},
	{kind: 5, spans: []span{{0x200C, 0x200C}, {0x200D, 0x200D}}},
	{kind: 1, spans: []span{{0x3041, 0x3096}}},
	{kind: 1, spans: []span{{0x30A1, 0x30FA}}},
	{kind: 5, spans: []span{{0x30FB, 0x30FB}}},
	{kind: 1, spans: []span{{0x4E00, 0x9FFF}}},
}

func documentedKinds() map[int]int {
	kinds := map[int]int{}
	for _, r := range documented {
		for _, s := range r.spans {
			for sign := s.first; sign <= s.last; sign++ {
				kinds[sign] = r.kind
			}
		}
		for _, sign := range r.except {
			delete(kinds, sign)
		}
	}
	return kinds
}

// P3, at every sign that there is, and some way past both ends.
func TestKindOfAll(t *testing.T) {
	kinds := documentedKinds()
	wrong := 0
	for sign := -0x1000; sign <= api.MaxSign+0x1000; sign++ {
		if got := Kind(sign); got != kinds[sign] {
			t.Errorf("P3: Kind(%#x) = %d, want %d", sign, got, kinds[sign])
			if wrong++; wrong > 20 {
				t.Fatal("P3: and so on")
			}
		}
	}
}

// P3, told sign by sign, so that a slip in the table above would show.
func TestKindOfSome(t *testing.T) {
	for _, c := range []struct {
		sign, kind int
	}{
		{'-', 3}, {',', 0}, {'.', 0}, {'/', 0}, {'0', 2}, {'9', 2}, {':', 0},
		{'@', 0}, {'A', 0}, {'Z', 0}, {'_', 0}, {'`', 0}, {'a', 1}, {'z', 1}, {'{', 0},
		{0, 0}, {' ', 0}, {0x7F, 0}, {0x80, 0},
		{'·', 5}, {'Þ', 0}, {'ß', 1}, {'ö', 1}, {'÷', 0}, {'ø', 1}, {'ÿ', 1}, {'Ā', 0},
		{0x33F, 4}, {0x340, 0}, {0x341, 0}, {0x342, 4}, {0x343, 0}, {0x344, 0}, {0x345, 4}, {0x34E, 4}, {0x34F, 0}, {0x350, 4},
		{'ά', 1}, {'ώ', 1}, {'א', 1}, {'ת', 1}, {'ا', 1}, {'ة', 1}, {'ـ', 0}, {'ي', 1},
		{0x652, 4}, {0x653, 0}, {'٠', 5}, {'٩', 5}, {'۰', 5}, {'۹', 5},
		{'अ', 1}, {'ह', 1}, {0x94D, 4}, {0x200B, 0}, {0x200E, 0},
		{'ぁ', 1}, {'ァ', 1}, {'ヺ', 1}, {'・', 5}, {'ー', 0}, {'一', 1}, {0x9FFF, 1}, {0xA000, 0},
		{0xFFFD, 0}, {'😀', 0}, {api.MaxSign, 0},
	} {
		if got := Kind(c.sign); got != c.kind {
			t.Errorf("P3: Kind(%#x) = %d, want %d", c.sign, got, c.kind)
		}
	}
}

// P1 and P3: numbers that are no sign, among them those which would be one if
// they were cut to fewer bits.
func TestKindOfNoSign(t *testing.T) {
	numbers := []int{-1, -'a', 0xD800, 0xDBFF, 0xDC00, 0xDFFF, api.MaxSign + 1, math.MinInt, math.MinInt + 'a', math.MaxInt, math.MinInt32, math.MaxInt32}
	for _, bits := range []int{8, 16, 21, 31, 32, 33, 62} {
		for _, sign := range []int{'-', '0', 'a'} {
			if number := 1<<bits + sign; number > api.MaxSign {
				numbers = append(numbers, number, -number)
			}
		}
	}
	for _, number := range numbers {
		if got := Kind(number); got != 0 {
			t.Errorf("P3: Kind(%d) = %d, want 0", number, got)
		}
	}
}
