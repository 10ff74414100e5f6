package puny

import (
	"slices"

	"manor/signs"
)

// encoder writes the form of the text that it embeds.
type encoder struct {
	signs.Text
	state
	form []byte
}

func newEncoder(text string) *encoder {
	return &encoder{Text: signs.Of(text)}
}

func (e *encoder) encode() string {
	e.writeASCII()
	e.state = firstState(len(e.form))
	if len(e.form) > 0 {
		e.form = append(e.form, separator)
	}
	for _, sign := range e.others() {
		e.writeEach(sign)
	}
	return string(e.form)
}

func (e *encoder) writeASCII() {
	for place := range e.Count() {
		if sign := e.At(place); sign < signs.FirstBeyondASCII {
			e.form = append(e.form, byte(sign))
		}
	}
}

// others are the signs that are not ASCII, each of them once, by size.
func (e *encoder) others() []rune {
	var found []rune
	for place := range e.Count() {
		if sign := e.At(place); sign >= signs.FirstBeyondASCII {
			found = append(found, sign)
		}
	}
	slices.Sort(found)
	return slices.Compact(found)
}

// writeEach writes a number for each place where the sign is. Only what is no
// greater stands there by then, so only that counts for the place.
func (e *encoder) writeEach(sign rune) {
	standing := 0
	for place := range e.Count() {
		here := e.At(place)
		if here == sign {
			e.writeNumber(e.stepsTo(int(sign), standing))
		}
		if here <= sign {
			standing++
		}
	}
}

func (e *encoder) writeNumber(number int) {
	e.form = appendNumber(e.form, number, e.bias)
	e.walk(number)
	e.settle(number)
}
