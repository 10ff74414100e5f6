// Package signs knows a text sign by sign.
package signs

import (
	"slices"

	"manor/api"
)

// FirstBeyondASCII is the least sign that is not an ASCII one.
const FirstBeyondASCII = 0x80

const (
	firstSurrogate = 0xD800
	lastSurrogate  = 0xDFFF
)

// IsSign tells whether a number is a sign. It takes an int, since a rune
// would have wrapped the very great numbers round into signs.
func IsSign(number int) bool {
	if number < 0 || number > api.MaxSign {
		return false
	}
	return number < firstSurrogate || number > lastSurrogate
}

// IsASCII tells whether all signs of a text are ASCII ones.
func IsASCII(text string) bool {
	for i := range len(text) {
		if text[i] >= FirstBeyondASCII {
			return false
		}
	}
	return true
}

// Text is a text as a row of signs. It is made to be embedded in what works
// on a text: its methods are theirs then.
type Text struct {
	row []rune
}

// Of is the Text of a string that is known to be UTF-8: other bytes would
// silently become U+FFFD here.
func Of(text string) Text {
	return Text{row: []rune(text)}
}

// Count tells how many signs there are.
func (t *Text) Count() int {
	return len(t.row)
}

// At is the sign at a place from 0 to Count() - 1.
func (t *Text) At(place int) rune {
	return t.row[place]
}

// Has tells whether a place, of whatever number, is one of the text.
func (t *Text) Has(place int) bool {
	return 0 <= place && place < len(t.row)
}

// Stands tells whether the sign is at the place. It may be asked of the
// neighbours of any place: outside the text no sign stands.
func (t *Text) Stands(place int, sign rune) bool {
	return t.Has(place) && t.row[place] == sign
}

// Any tells whether there is a sign of which so much is true.
func (t *Text) Any(is func(rune) bool) bool {
	return slices.ContainsFunc(t.row, is)
}

// Insert puts a sign in ahead of a place from 0 to Count().
func (t *Text) Insert(place int, sign rune) {
	t.row = slices.Insert(t.row, place, sign)
}

// String is the text in UTF-8.
func (t *Text) String() string {
	return string(t.row)
}
