package manor

import (
	"regexp"
	"strings"
	"unicode/utf8"

	"manor/api"
	"manor/puny"
)

// What stands here is DOC.md's table, P4, P5 and P6 once more, word for word and
// without regard to time, to hold the program against.

type span struct{ first, last int }

type entry struct {
	kind    int
	side    string
	script  string
	joining string
}

var documented = readTable()

func readTable() map[int]entry {
	entries := map[int]entry{}
	for _, r := range []struct {
		entry
		spans  []span
		except []int
	}{
		{entry{3, "ES", "", ""}, []span{{0x2D, 0x2D}}, nil},
		{entry{2, "EN", "", ""}, []span{{0x30, 0x39}}, nil},
		{entry{1, "L", "Latin", ""}, []span{{0x61, 0x7A}, {0xDF, 0xF6}, {0xF8, 0xFF}}, nil},
		{entry{5, "none", "", ""}, []span{{0xB7, 0xB7}}, nil},
		{entry{4, "NSM", "", "T"}, []span{{0x300, 0x36F}}, []int{0x340, 0x341, 0x343, 0x344, 0x34F}},
		{entry{5, "none", "Greek", ""}, []span{{0x375, 0x375}}, nil},
		{entry{1, "L", "Greek", ""}, []span{{0x3AC, 0x3CE}}, nil},
		{entry{1, "R", "Hebrew", ""}, []span{{0x5D0, 0x5EA}}, nil},
		{entry{5, "R", "Hebrew", ""}, []span{{0x5F3, 0x5F3}, {0x5F4, 0x5F4}}, nil},
		{entry{1, "AL", "Arabic", "R"}, []span{{0x627, 0x627}, {0x62F, 0x632}, {0x648, 0x648}}, nil},
		{entry{1, "AL", "Arabic", "D"}, []span{{0x628, 0x628}, {0x62A, 0x62E}, {0x633, 0x63A}, {0x641, 0x647}, {0x649, 0x649}, {0x64A, 0x64A}}, nil},
		{entry{1, "AL", "Arabic", "R"}, []span{{0x629, 0x629}}, nil},
		{entry{4, "NSM", "", "T"}, []span{{0x64B, 0x652}}, nil},
		{entry{5, "AN", "", ""}, []span{{0x660, 0x669}}, nil},
		{entry{5, "EN", "", ""}, []span{{0x6F0, 0x6F9}}, nil},
		{entry{1, "L", "Devanagari", ""}, []span{{0x905, 0x939}}, nil},
		{entry{4, "NSM", "", "T"}, []span{{0x94D, 0x94D}}, nil},
		{entry{5, "none", "", ""}, []span{{0x200C, 0x200C}, {0x200D, 0x200D}}, nil},
		{entry{1, "L", "Hiragana", ""}, []span{{0x3041, 0x3096}}, nil},
		{entry{1, "L", "Katakana", ""}, []span{{0x30A1, 0x30FA}}, nil},
		{entry{5, "none", "", ""}, []span{{0x30FB, 0x30FB}}, nil},
		{entry{1, "L", "Han", ""}, []span{{0x4E00, 0x9FFF}}, nil},
	} {
		for _, s := range r.spans {
			for sign := s.first; sign <= s.last; sign++ {
				entries[sign] = r.entry
			}
		}
		for _, sign := range r.except {
			delete(entries, sign)
		}
	}
	return entries
}

var heights = readHeights()

func readHeights() map[rune]int {
	all := map[rune]int{}
	for sign, e := range documented {
		if e.kind == 4 {
			all[rune(sign)] = 230
		}
	}
	for _, sign := range "\u0327\u0328" {
		all[sign] = 202
	}
	for _, sign := range "\u0316\u0317\u0318\u0319\u031C\u031D\u031E\u031F\u0320\u0323\u0324\u0325\u0326" +
		"\u0329\u032A\u032B\u032C\u032D\u032E\u032F\u0330\u0331\u0332\u0333" {
		all[sign] = 220
	}
	for i, sign := range []rune("\u064B\u064C\u064D\u064E\u064F\u0650\u0651\u0652") {
		all[sign] = 27 + i
	}
	all[0x94D] = 9
	return all
}

var pairs = strings.Fields("a\u0300 a\u0301 a\u0302 a\u0308 e\u0300 e\u0301 e\u0302 e\u0308 i\u0300 i\u0301 i\u0302 i\u0308 " +
	"o\u0300 o\u0301 o\u0302 o\u0308 u\u0300 u\u0301 u\u0302 u\u0308 a\u0303 n\u0303 o\u0303 c\u0327 a\u030A y\u0301 y\u0308")

var (
	capitals    = regexp.MustCompile(`[A-Z]`)
	ascii       = regexp.MustCompile(`^[\x00-\x7F]*$`)
	hyphens     = regexp.MustCompile(`^-|-$|^..--`)
	bothDigits  = regexp.MustCompile(`[٠-٩].*[۰-۹]|[۰-۹].*[٠-٩]`)
	joinedAhead = regexp.MustCompile(`DT*$`)
	joinedBack  = regexp.MustCompile(`^T*[DR]`)
)

// joinings writes a letter for each sign: its joining, or a dot.
func joinings(row []rune) string {
	var b strings.Builder
	for _, sign := range row {
		b.WriteString((documented[int(sign)].joining + ".")[:1])
	}
	return b.String()
}

func scriptAt(row []rune, place int) string {
	if place < 0 || place >= len(row) {
		return ""
	}
	return documented[int(row[place])].script
}

func conditionInWords(row []rune, place int) bool {
	ahead, behind := string(row[:place]), string(row[place+1:])
	afterVirama := strings.HasSuffix(ahead, "\u094D")
	switch sign := row[place]; sign {
	case 0xB7:
		return strings.HasSuffix(ahead, "l") && strings.HasPrefix(behind, "l")
	case 0x375:
		return scriptAt(row, place+1) == "Greek"
	case 0x5F3, 0x5F4:
		return scriptAt(row, place-1) == "Hebrew"
	case 0x30FB:
		for i := range row {
			if s := scriptAt(row, i); s == "Hiragana" || s == "Katakana" || s == "Han" {
				return true
			}
		}
		return false
	case 0x200D:
		return afterVirama
	case 0x200C:
		return afterVirama || joinedAhead.MatchString(joinings(row[:place])) && joinedBack.MatchString(joinings(row[place+1:]))
	}
	return !bothDigits.MatchString(string(row))
}

func faultInWords(text string) api.Errno {
	row := []rune(text)
	for _, sign := range row {
		if documented[int(sign)].kind == 0 {
			return api.ErrSign
		}
	}
	if hyphens.MatchString(text) {
		return api.ErrHyphen
	}
	if documented[int(row[0])].kind == 4 {
		return api.ErrMark
	}
	for _, pair := range pairs {
		if strings.Contains(text, pair) {
			return api.ErrForm
		}
	}
	for i := range len(row) - 1 {
		first, isMark := heights[row[i]]
		second, areMarks := heights[row[i+1]]
		if isMark && areMarks && first > second {
			return api.ErrForm
		}
	}
	for place, sign := range row {
		if documented[int(sign)].kind == 5 && !conditionInWords(row, place) {
			return api.ErrContext
		}
	}
	return api.OK
}

func labelInWords(text string) (string, string, api.Errno) {
	if !utf8.ValidString(text) {
		return "", "", api.ErrUTF8
	}
	if text == "" {
		return "", "", api.ErrEmpty
	}
	if ascii.MatchString(text) {
		text = capitals.ReplaceAllStringFunc(text, func(s string) string { return string(s[0] + 32) })
		if strings.HasPrefix(text, "xn--") {
			plain, errno := puny.Decode(text[4:])
			if errno != api.OK || ascii.MatchString(plain) {
				return "", "", api.ErrPuny
			}
			text = plain
		}
	}
	if errno := faultInWords(text); errno != api.OK {
		return "", "", errno
	}
	form := text
	if !ascii.MatchString(text) {
		encoded, errno := puny.Encode(text)
		if errno != api.OK {
			return "", "", api.ErrLong
		}
		form = "xn--" + encoded
	}
	if len(form) > 63 {
		return "", "", api.ErrLong
	}
	return text, form, api.OK
}

// initials writes a letter for each side, so that a pattern can be held against
// them.
var initials = map[string]string{"L": "L", "R": "R", "AL": "A", "EN": "E", "AN": "N", "ES": "S", "NSM": "M", "none": "."}

func sides(text string) string {
	var b strings.Builder
	for _, sign := range text {
		b.WriteString(initials[documented[int(sign)].side])
	}
	return b.String()
}

var (
	otherSided = regexp.MustCompile(`[RAN]`)
	sidedL     = regexp.MustCompile(`^L[LESM.]*$`)
	endsL      = regexp.MustCompile(`[LE]M*$`)
	sidedR     = regexp.MustCompile(`^[RA][RANESM.]*$`)
	endsR      = regexp.MustCompile(`[RAEN]M*$`)
	bothEN     = regexp.MustCompile(`E.*N|N.*E`)
)

func sidedInWords(text string) bool {
	s := sides(text)
	if sidedL.MatchString(s) {
		return endsL.MatchString(s)
	}
	return sidedR.MatchString(s) && endsR.MatchString(s) && !bothEN.MatchString(s)
}

func nameInWords(text string) (string, string, int, api.Errno) {
	texts := strings.Split(text, ".")
	end := ""
	if last := len(texts) - 1; last > 0 && texts[last] == "" {
		texts, end = texts[:last], "."
	}
	var labels, forms []string
	for number, text := range texts {
		label, form, errno := labelInWords(text)
		if errno != api.OK {
			return "", "", number, errno
		}
		labels, forms = append(labels, label), append(forms, form)
	}
	if otherSided.MatchString(sides(strings.Join(labels, ""))) {
		for number, label := range labels {
			if !sidedInWords(label) {
				return "", "", number, api.ErrSide
			}
		}
	}
	if len(strings.Join(forms, ".")) > 253 {
		return "", "", 0, api.ErrName
	}
	return strings.Join(labels, ".") + end, strings.Join(forms, ".") + end, 0, api.OK
}
