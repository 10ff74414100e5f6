package manor

const (
	middleDot   = 0x00B7
	numeralSign = 0x0375
	geresh      = 0x05F3
	gershayim   = 0x05F4
	virama      = 0x094D
	nonJoiner   = 0x200C
	joiner      = 0x200D
	katakanaDot = 0x30FB
)

func isArabicDigit(sign rune) bool { return isBetween(sign, 0x0660, 0x0669) }

func isExtendedDigit(sign rune) bool { return isBetween(sign, 0x06F0, 0x06F9) }

// whole is what some conditions ask of the label as a whole. It is found once
// for all signs: found again at each one, it would take the square of the
// time, which is too long with a very long text.
type whole struct {
	katakanaDots bool // they may be here
	mixedDigits  bool // there are digits of both rows
}

func (l *label) whole() whole {
	return whole{
		katakanaDots: l.hasScript(scriptHiragana, scriptKatakana, scriptHan),
		mixedDigits:  l.Any(isArabicDigit) && l.Any(isExtendedDigit),
	}
}

func (l *label) hasWrongContext() bool {
	all := l.whole()
	for place := range l.Count() {
		if !l.isInContext(place, all) {
			return true
		}
	}
	return false
}

// isInContext tells whether the condition of the sign at a place is so. Signs
// that are not conditional have none.
func (l *label) isInContext(place int, all whole) bool {
	switch sign := l.At(place); {
	case sign == middleDot:
		return l.Stands(place-1, 'l') && l.Stands(place+1, 'l')
	case sign == numeralSign:
		return l.isScript(place+1, scriptGreek)
	case sign == geresh, sign == gershayim:
		return l.isScript(place-1, scriptHebrew)
	case sign == katakanaDot:
		return all.katakanaDots
	case isArabicDigit(sign), isExtendedDigit(sign):
		return !all.mixedDigits
	case sign == nonJoiner:
		if l.isBetweenJoined(place) {
			return true
		}
		fallthrough
	case sign == joiner:
		return l.Stands(place-1, virama)
	}
	return true
}

func (l *label) isBetweenJoined(place int) bool {
	return l.isJoining(l.pastMarks(place, -1), joiningD) &&
		l.isJoining(l.pastMarks(place, 1), joiningD, joiningR)
}

// pastMarks is the next place in steps of that size whose sign is not of
// joining T; it may be outside the text.
func (l *label) pastMarks(place, step int) int {
	place += step
	for l.isJoining(place, joiningT) {
		place += step
	}
	return place
}
