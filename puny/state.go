package puny

import "manor/signs"

// state is where both ways are: a number is the steps from one state to the
// next at which a sign goes in.
type state struct {
	size     int // of the sign that would go in here
	place    int // ahead of which it would go in
	standing int // how many signs stand there by now
	bias     int // of the next number
	begun    bool
}

func firstState(standing int) state {
	return state{
		size:     signs.FirstBeyondASCII,
		standing: standing,
		bias:     firstBias,
	}
}

// stepsTo counts the steps from here to a state that comes later: each size
// has a place ahead of every sign that stands there, and one behind them all.
func (s *state) stepsTo(size, place int) int {
	return (size-s.size)*(s.standing+1) + place - s.place
}

// walk makes that many steps at once.
func (s *state) walk(steps int) {
	places := s.standing + 1
	steps += s.place
	s.size += steps / places
	s.place = steps % places
}

// settle is what follows when a sign has gone in here. The one step never
// leads on to the next size, since the new sign stands behind this place.
func (s *state) settle(number int) {
	s.standing++
	s.place++
	s.bias = biasBehind(number, s.standing, !s.begun)
	s.begun = true
}
