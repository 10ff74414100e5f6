package signs

import (
	"math"
	"testing"
)

func TestIsSign(t *testing.T) {
	for _, c := range []struct {
		number int
		want   bool
	}{
		{0, true}, {0x7F, true}, {0x80, true},
		{0xD7FF, true}, {0xD800, false}, {0xDFFF, false}, {0xE000, true},
		{0x10FFFF, true}, {0x110000, false},
		{-1, false}, {math.MinInt, false}, {math.MaxInt, false}, {1<<32 + 'a', false},
	} {
		if got := IsSign(c.number); got != c.want {
			t.Errorf("IsSign(%#x) = %v", c.number, got)
		}
	}
}

func TestIsASCII(t *testing.T) {
	for text, want := range map[string]bool{
		"": true, "a": true, "\x00\x7f": true, "\u0080": false, "abcü": false, "üabc": false, "\x80": false, "\xff": false,
	} {
		if got := IsASCII(text); got != want {
			t.Errorf("IsASCII(%q) = %v", text, got)
		}
	}
}

func TestTextSignBySign(t *testing.T) {
	text := Of("aü😀")
	if text.Count() != 3 || text.At(0) != 'a' || text.At(1) != 'ü' || text.At(2) != '😀' {
		t.Errorf("signs of %q: %d", text.String(), text.Count())
	}
	empty := Of("")
	if empty.Count() != 0 || empty.String() != "" {
		t.Errorf("signs of the empty text: %d, %q", empty.Count(), empty.String())
	}
}

func TestNeighbours(t *testing.T) {
	text := Of("aü")
	for _, c := range []struct {
		place int
		sign  rune
		has   bool
	}{
		{math.MinInt, 0, false}, {-1, 0, false}, {0, 'a', true}, {1, 'ü', true}, {2, 0, false}, {math.MaxInt, 0, false},
	} {
		if text.Has(c.place) != c.has || text.Stands(c.place, c.sign) != c.has || text.Stands(c.place, 'x') {
			t.Errorf("at place %d: %v, %v", c.place, text.Has(c.place), text.Stands(c.place, c.sign))
		}
	}
}

func TestAny(t *testing.T) {
	text := Of("aü")
	for _, c := range []struct {
		sign rune
		want bool
	}{{'a', true}, {'ü', true}, {'b', false}} {
		if got := text.Any(func(sign rune) bool { return sign == c.sign }); got != c.want {
			t.Errorf("any %q: %v", c.sign, got)
		}
	}
}

func TestInsert(t *testing.T) {
	text := Of("bd")
	text.Insert(2, 'e')
	text.Insert(0, 'a')
	text.Insert(2, '😀')
	if got := text.String(); got != "ab😀de" || text.Count() != 5 {
		t.Errorf("after inserting: %q, %d", got, text.Count())
	}
}

// What embeds a Text has its methods.
func TestEmbedded(t *testing.T) {
	var holder struct{ Text }
	holder.Insert(0, 'ü')
	if holder.Count() != 1 || holder.At(0) != 'ü' || holder.String() != "ü" {
		t.Errorf("embedded: %q", holder.String())
	}
}
