package manor

import "strings"

const (
	grave      = 0x0300
	acute      = 0x0301
	circumflex = 0x0302
	tilde      = 0x0303
	diaeresis  = 0x0308
	ring       = 0x030A
	cedilla    = 0x0327
	ogonek     = 0x0328
)

// hasWrongForm tells whether two neighbours have a sign of their own, or are
// marks in a wrong order.
func (l *label) hasWrongForm() bool {
	for place := 1; place < l.Count(); place++ {
		first, second := l.At(place-1), l.At(place)
		if isPair(first, second) {
			return true
		}
		if l.isKind(place-1, kindMark) && l.isKind(place, kindMark) && height(first) > height(second) {
			return true
		}
	}
	return false
}

// isPair tells whether the two have a sign of their own.
func isPair(letter, mark rune) bool {
	switch mark {
	case acute, diaeresis:
		return strings.ContainsRune("aeiouy", letter)
	case grave, circumflex:
		return strings.ContainsRune("aeiou", letter)
	case tilde:
		return strings.ContainsRune("ano", letter)
	case cedilla:
		return letter == 'c'
	case ring:
		return letter == 'a'
	}
	return false
}

func height(mark rune) int {
	switch {
	case mark == virama:
		return 9
	case isBetween(mark, 0x064B, 0x0652):
		return int(mark) - 0x064B + 27
	case mark == cedilla, mark == ogonek:
		return 202
	case isBetween(mark, 0x0316, 0x0319), isBetween(mark, 0x031C, 0x0320),
		isBetween(mark, 0x0323, 0x0326), isBetween(mark, 0x0329, 0x0333):
		return 220
	}
	return 230
}

func isBetween(sign, first, last rune) bool {
	return first <= sign && sign <= last
}
