package manor

// asksForSides tells whether a sign is there for whose sake all labels of the
// name must be sided.
func (l *label) asksForSides() bool {
	return l.hasSide(sideR, sideAL, sideAN)
}

func (l *label) isSided() bool {
	switch {
	case l.isSide(0, sideL):
		return l.hasOnlySides(sideL, sideEN, sideES, sideNSM, sideNone) &&
			l.endsOnSide(sideL, sideEN)
	case l.isSide(0, sideR, sideAL):
		return l.hasOnlySides(sideR, sideAL, sideAN, sideEN, sideES, sideNSM, sideNone) &&
			l.endsOnSide(sideR, sideAL, sideEN, sideAN) &&
			!(l.hasSide(sideEN) && l.hasSide(sideAN))
	}
	return false
}

func (l *label) hasOnlySides(sides ...side) bool {
	return !l.somewhere(func(place int) bool { return !l.isSide(place, sides...) })
}

// endsOnSide passes the marks at the end over: they have the side of what they
// stand on.
func (l *label) endsOnSide(sides ...side) bool {
	last := l.Count() - 1
	for l.isSide(last, sideNSM) {
		last--
	}
	return l.isSide(last, sides...)
}
