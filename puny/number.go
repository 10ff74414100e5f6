package puny

const (
	base       = 36
	leastBound = 1
	mostBound  = 26
	firstBias  = 72
)

const (
	firstDamp = 700
	laterDamp = 2
	damped    = 455
	skew      = 38
)

const digits = "abcdefghijklmnopqrstuvwxyz0123456789"

// bound is the bound of the k-th digit, counted from 1.
func bound(k, bias int) int {
	return min(max(base*k-bias, leastBound), mostBound)
}

// biasBehind is the bias that follows a number, with so many signs standing.
func biasBehind(number, standing int, first bool) int {
	d := number / laterDamp
	if first {
		d = number / firstDamp
	}
	d += d / standing
	bias := 0
	for d > damped {
		d /= base - leastBound
		bias += base
	}
	return bias + base*d/(d+skew)
}

func appendNumber(form []byte, number, bias int) []byte {
	for k := 1; ; k++ {
		low := bound(k, bias)
		if number < low {
			return append(form, digits[number])
		}
		number -= low
		form = append(form, digits[low+number%(base-low)])
		number /= base - low
	}
}

// readNumber reads the number at the beginning of a form, and what is left
// behind it. It tells false if there is no whole number, or one above most.
// A digit that is not the last is at least 1, so the weight is never above
// the number: giving up above most keeps both from wrapping round.
func readNumber(form string, bias, most int) (number int, rest string, ok bool) {
	sum, weight := int64(0), int64(1)
	for i := range len(form) {
		digit, ok := digitOf(form[i])
		if !ok {
			return 0, "", false
		}
		sum += int64(digit) * weight
		if sum > int64(most) {
			return 0, "", false
		}
		low := bound(i+1, bias)
		if digit < low {
			return int(sum), form[i+1:], true
		}
		weight *= int64(base - low)
	}
	return 0, "", false
}

func digitOf(letter byte) (int, bool) {
	switch {
	case 'a' <= letter && letter <= 'z':
		return int(letter - 'a'), true
	case '0' <= letter && letter <= '9':
		return int(letter-'0') + 26, true
	}
	return 0, false
}
