package manor

import (
	"slices"

	"manor/api"
	"manor/signs"
)

// label looks through the text that it embeds. What it asks of a place may be
// asked of any: the row of a place outside the text is empty.
type label struct {
	signs.Text
}

func newLabel(text string) *label {
	return &label{Text: signs.Of(text)}
}

// goodLabel is what is looked through for a label, and its ASCII form, if it is
// good.
func goodLabel(text string) (*label, string, api.Errno) {
	plain, errno := plainText(text)
	if errno != api.OK {
		return nil, "", errno
	}
	l := newLabel(plain)
	if errno := l.fault(); errno != api.OK {
		return nil, "", errno
	}
	form, errno := l.form()
	if errno != api.OK {
		return nil, "", errno
	}
	return l, form, api.OK
}

// fault is the first rule that the text breaks, but for its length.
func (l *label) fault() api.Errno {
	switch {
	case l.hasKind(kindNone):
		return api.ErrSign
	case l.hasWrongHyphen():
		return api.ErrHyphen
	case l.isKind(0, kindMark):
		return api.ErrMark
	case l.hasWrongForm():
		return api.ErrForm
	case l.hasWrongContext():
		return api.ErrContext
	}
	return api.OK
}

func (l *label) hasWrongHyphen() bool {
	return l.isKind(0, kindHyphen) || l.isKind(l.Count()-1, kindHyphen) ||
		l.isKind(2, kindHyphen) && l.isKind(3, kindHyphen)
}

func (l *label) rowAt(place int) row {
	if !l.Has(place) {
		return row{}
	}
	return rowOf(int(l.At(place)))
}

func (l *label) isKind(place int, kinds ...kind) bool {
	return slices.Contains(kinds, l.rowAt(place).kind)
}

func (l *label) isSide(place int, sides ...side) bool {
	return slices.Contains(sides, l.rowAt(place).side)
}

func (l *label) isScript(place int, scripts ...script) bool {
	return slices.Contains(scripts, l.rowAt(place).script)
}

func (l *label) isJoining(place int, joinings ...joining) bool {
	return slices.Contains(joinings, l.rowAt(place).joining)
}

func (l *label) hasKind(kinds ...kind) bool {
	return l.somewhere(func(place int) bool { return l.isKind(place, kinds...) })
}

func (l *label) hasSide(sides ...side) bool {
	return l.somewhere(func(place int) bool { return l.isSide(place, sides...) })
}

func (l *label) hasScript(scripts ...script) bool {
	return l.somewhere(func(place int) bool { return l.isScript(place, scripts...) })
}

// somewhere tells whether there is a place of which so much is true.
func (l *label) somewhere(is func(place int) bool) bool {
	for place := range l.Count() {
		if is(place) {
			return true
		}
	}
	return false
}
