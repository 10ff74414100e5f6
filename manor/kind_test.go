package manor

import (
	"math"
	"testing"

	"manor/api"
)

// P3, at every sign that there is, and some way past both ends.
func TestKindOfAll(t *testing.T) {
	wrong := 0
	for sign := -0x1000; sign <= api.MaxSign+0x1000; sign++ {
		if got := Kind(sign); got != documented[sign].kind {
			t.Errorf("P3: Kind(%#x) = %d, want %d", sign, got, documented[sign].kind)
			if wrong++; wrong > 20 {
				t.Fatal("P3: and so on")
			}
		}
	}
}

// P3, told sign by sign, so that a slip in the table above would show.
func TestKindOfSome(t *testing.T) {
	for _, c := range []struct {
		sign, kind int
	}{
		{'-', 3}, {',', 0}, {'.', 0}, {'/', 0}, {'0', 2}, {'9', 2}, {':', 0},
		{'@', 0}, {'A', 0}, {'Z', 0}, {'_', 0}, {'`', 0}, {'a', 1}, {'z', 1}, {'{', 0},
		{0, 0}, {' ', 0}, {0x7F, 0}, {0x80, 0},
		{'·', 5}, {'Þ', 0}, {'ß', 1}, {'ö', 1}, {'÷', 0}, {'ø', 1}, {'ÿ', 1}, {'Ā', 0},
		{0x33F, 4}, {0x340, 0}, {0x341, 0}, {0x342, 4}, {0x343, 0}, {0x344, 0}, {0x345, 4}, {0x34E, 4}, {0x34F, 0}, {0x350, 4},
		{'ά', 1}, {'ώ', 1}, {'א', 1}, {'ת', 1}, {'ا', 1}, {'ة', 1}, {'ـ', 0}, {'ي', 1},
		{0x652, 4}, {0x653, 0}, {'٠', 5}, {'٩', 5}, {'۰', 5}, {'۹', 5},
		{'अ', 1}, {'ह', 1}, {0x94D, 4}, {0x200B, 0}, {0x200E, 0},
		{'ぁ', 1}, {'ァ', 1}, {'ヺ', 1}, {'・', 5}, {'ー', 0}, {'一', 1}, {0x9FFF, 1}, {0xA000, 0},
		{0xFFFD, 0}, {'😀', 0}, {api.MaxSign, 0},
	} {
		if got := Kind(c.sign); got != c.kind {
			t.Errorf("P3: Kind(%#x) = %d, want %d", c.sign, got, c.kind)
		}
	}
}

// P1 and P3: numbers that are no sign, among them those which would be one if
// they were cut to fewer bits.
func TestKindOfNoSign(t *testing.T) {
	numbers := []int{-1, -'a', 0xD800, 0xDBFF, 0xDC00, 0xDFFF, api.MaxSign + 1, math.MinInt, math.MinInt + 'a', math.MaxInt, math.MinInt32, math.MaxInt32}
	for _, bits := range []int{8, 16, 21, 31, 32, 33, 62} {
		for _, sign := range []int{'-', '0', 'a'} {
			if number := 1<<bits + sign; number > api.MaxSign {
				numbers = append(numbers, number, -number)
			}
		}
	}
	for _, number := range numbers {
		if got := Kind(number); got != 0 {
			t.Errorf("P3: Kind(%d) = %d, want 0", number, got)
		}
	}
}
