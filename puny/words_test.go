package puny

import (
	"math/big"
	"slices"
	"testing"

	"manor/api"
)

// What follows writes a form just as the section 'Words' of DOC.md tells it,
// one step at a time, and shares nothing with the package.

type slowState struct{ n, i, standing int }

func (s *slowState) step() {
	if s.i < s.standing {
		s.i++
		return
	}
	s.n, s.i = s.n+1, 0
}

type slowSign struct{ size, place int }

func slowEncode(text string) string {
	all := []rune(text)
	form := ""
	var others []slowSign
	for place, sign := range all {
		if sign < 128 {
			form += string(sign)
		} else {
			others = append(others, slowSign{int(sign), place})
		}
	}
	slices.SortStableFunc(others, func(a, b slowSign) int { return a.size - b.size })
	state := slowState{128, 0, len(form)}
	if form != "" {
		form += "-"
	}
	bias := 72
	for k, other := range others {
		number := 0
		goal := slowPlace(all, others[:k], other)
		for state.n != other.size || state.i != goal {
			state.step()
			number++
		}
		form += slowNumber(number, bias)
		state.standing++
		state.step()
		bias = slowBias(number, state.standing, k == 0)
	}
	return form
}

// slowPlace counts what stands ahead of a sign when it goes in: the ASCII
// signs and the others that went in earlier.
func slowPlace(all []rune, in []slowSign, sign slowSign) int {
	count := 0
	for _, ahead := range all[:sign.place] {
		if ahead < 128 {
			count++
		}
	}
	for _, other := range in {
		if other.place < sign.place {
			count++
		}
	}
	return count
}

func slowNumber(q, bias int) string {
	letters := ""
	for k := 1; ; k++ {
		bound := 36*k - bias
		if bound < 1 {
			bound = 1
		}
		if bound > 26 {
			bound = 26
		}
		if q < bound {
			return letters + slowDigit(q)
		}
		letters += slowDigit(bound + (q-bound)%(36-bound))
		q = (q - bound) / (36 - bound)
	}
}

func slowDigit(value int) string {
	if value < 26 {
		return string(rune('a' + value))
	}
	return string(rune('0' + value - 26))
}

func slowBias(number, standing int, first bool) int {
	d := number / 2
	if first {
		d = number / 700
	}
	d = d + d/standing
	bias := 0
	for d > 455 {
		d = d / 35
		bias += 36
	}
	return bias + 36*d/(d+38)
}

// slowGreatNumber writes a first number of any size.
func slowGreatNumber(q *big.Int) string {
	letters := ""
	for k := 1; ; k++ {
		bound := int64(min(max(36*k-72, 1), 26))
		if q.Cmp(big.NewInt(bound)) < 0 {
			return letters + slowDigit(int(q.Int64()))
		}
		var rest big.Int
		q, _ = new(big.Int).DivMod(new(big.Int).Sub(q, big.NewInt(bound)), big.NewInt(36-bound), &rest)
		letters += slowDigit(int(bound + rest.Int64()))
	}
}

// A number so great that fewer bits of it are the number of a sign.
func TestGreatNumbers(t *testing.T) {
	for _, c := range []struct {
		text   string
		number int64
	}{{"\u0080", 0}, {"ü", 'ü' - 128}, {"\U0010ffff", 0x10FFFF - 128}} {
		wantDecoded(t, slowGreatNumber(big.NewInt(c.number)), c.text, api.OK)
		for _, bits := range []uint{31, 32, 33, 53, 62, 63, 64, 65, 96, 127, 128, 1000} {
			great := new(big.Int).Lsh(big.NewInt(1), bits)
			great.Add(great, big.NewInt(c.number))
			wantDecoded(t, slowGreatNumber(great), "", api.ErrPuny)
		}
	}
}

func TestBias(t *testing.T) {
	numbers := []int{700*455 - 1, 700 * 455, 700*456 - 1, 700 * 456, 0x10FFFF * 1000}
	for number := range 3000 {
		numbers = append(numbers, number, number*699, number*701)
	}
	for _, number := range numbers {
		for _, standing := range []int{1, 2, 3, 10, 999, 1000} {
			for _, first := range []bool{false, true} {
				if got, want := biasBehind(number, standing, first), slowBias(number, standing, first); got != want {
					t.Fatalf("P2: the bias behind %d with %d signs is %d, want %d", number, standing, got, want)
				}
			}
		}
	}
}

func TestAsTheWordsTell(t *testing.T) {
	some := []rune("aaz-09Z~\u0080\u0080\u0081üüßÿ\u0300\u03ac\u05d0\u0627\u200dあ一\ud7ff\ue000😀")
	var n numbers = 7
	for range 1500 {
		mixed := make([]rune, n.below(14))
		for i := range mixed {
			mixed[i] = some[n.below(len(some))]
		}
		text := string(mixed)
		form := slowEncode(text)
		wantEncoded(t, text, form, api.OK)
		wantDecoded(t, form, text, api.OK)
	}
}

func TestAsTheWordsTellAtTheEnd(t *testing.T) {
	for _, text := range []string{"\U0010ffff", "ab\U0010ffffc", "\U0010ffff\u0080\U0010ffff", "x\U0010fffe\U0010ffffy\U0010fffd"} {
		wantEncoded(t, text, slowEncode(text), api.OK)
	}
}
