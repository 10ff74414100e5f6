package puny

import (
	"strings"

	"manor/api"
	"manor/signs"
)

// decoder puts the signs that the numbers tell into the text that it embeds.
type decoder struct {
	signs.Text
	state
	numbers string
}

func newDecoder(plain, numbers string) *decoder {
	return &decoder{
		Text:    signs.Of(plain),
		state:   firstState(len(plain)),
		numbers: numbers,
	}
}

func (d *decoder) decode() (string, bool) {
	for d.numbers != "" {
		if !d.insertNext() {
			return "", false
		}
	}
	return d.String(), true
}

// insertNext tells false if the next number is none, or leads to no sign.
func (d *decoder) insertNext() bool {
	most := d.stepsTo(api.MaxSign, d.standing)
	number, rest, ok := readNumber(d.numbers, d.bias, most)
	if !ok {
		return false
	}
	d.numbers = rest
	d.walk(number)
	if !signs.IsSign(d.size) {
		return false
	}
	d.Insert(d.place, rune(d.size))
	d.settle(number)
	return true
}

// split parts the ASCII signs of a form from its numbers. It tells false if
// there is a separator that parts nothing from them.
func split(form string) (plain, numbers string, ok bool) {
	end := strings.LastIndexByte(form, separator)
	if end < 0 {
		return "", form, true
	}
	return form[:end], form[end+1:], end > 0
}
