package manor

import (
	"regexp"
	"strings"
	"unicode/utf8"

	"manor/api"
	"manor/puny"
)

// What stands here is DOC.md's table and P4 once more, word for word and
// without regard to time, to hold the program against.

type span struct{ first, last int }

type entry struct {
	kind    int
	script  string
	joining string
}

var documented = readTable()

func readTable() map[int]entry {
	entries := map[int]entry{}
	for _, r := range []struct {
		entry
		spans  []span
		except []int
	}{
		{entry{3, "", ""}, []span{{0x2D, 0x2D}}, nil},
		{entry{2, "", ""}, []span{{0x30, 0x39}}, nil},
		{entry{1, "Latin", ""}, []span{{0x61, 0x7A}, {0xDF, 0xF6}, {0xF8, 0xFF}}, nil},
		{entry{5, "", ""}, []span{{0xB7, 0xB7}}, nil},
		{entry{4, "", "T"}, []span{{0x300, 0x36F}}, []int{0x340, 0x341, 0x343, 0x344, 0x34F}},
		{entry{5, "Greek", ""}, []span{{0x375, 0x375}}, nil},
		{entry{1, "Greek", ""}, []span{{0x3AC, 0x3CE}}, nil},
		{entry{1, "Hebrew", ""}, []span{{0x5D0, 0x5EA}}, nil},
		{entry{5, "Hebrew", ""}, []span{{0x5F3, 0x5F3}, {0x5F4, 0x5F4}}, nil},
		{entry{1, "Arabic", "R"}, []span{{0x627, 0x627}, {0x62F, 0x632}, {0x648, 0x648}}, nil},
		{entry{1, "Arabic", "D"}, []span{{0x628, 0x628}, {0x62A, 0x62E}, {0x633, 0x63A}, {0x641, 0x647}, {0x649, 0x649}, {0x64A, 0x64A}}, nil},
		{entry{1, "Arabic", "R"}, []span{{0x629, 0x629}}, nil},
		{entry{4, "", "T"}, []span{{0x64B, 0x652}}, nil},
		{entry{5, "", ""}, []span{{0x660, 0x669}}, nil},
		{entry{5, "", ""}, []span{{0x6F0, 0x6F9}}, nil},
		{entry{1, "Devanagari", ""}, []span{{0x905, 0x939}}, nil},
		{entry{4, "", "T"}, []span{{0x94D, 0x94D}}, nil},
		{entry{5, "", ""}, []span{{0x200C, 0x200C}, {0x200D, 0x200D}}, nil},
		{entry{1, "Hiragana", ""}, []span{{0x3041, 0x3096}}, nil},
		{entry{1, "Katakana", ""}, []span{{0x30A1, 0x30FA}}, nil},
		{entry{5, "", ""}, []span{{0x30FB, 0x30FB}}, nil},
		{entry{1, "Han", ""}, []span{{0x4E00, 0x9FFF}}, nil},
	} {
		for _, s := range r.spans {
			for sign := s.first; sign <= s.last; sign++ {
				entries[sign] = r.entry
			}
		}
		for _, sign := range r.except {
			delete(entries, sign)
		}
	}
	return entries
}

var heights = readHeights()

func readHeights() map[rune]int {
	all := map[rune]int{}
	for sign, e := range documented {
		if e.kind == 4 {
			all[rune(sign)] = 230
		}
	}
	for _, sign := range "\u0327\u0328" {
		all[sign] = 202
	}
	for _, sign := range "\u0316\u0317\u0318\u0319\u031C\u031D\u031E\u031F\u0320\u0323\u0324\u0325\u0326" +
		"\u0329\u032A\u032B\u032C\u032D\u032E\u032F\u0330\u0331\u0332\u0333" {
		all[sign] = 220
	}
	for i, sign := range []rune("\u064B\u064C\u064D\u064E\u064F\u0650\u0651\u0652") {
		all[sign] = 27 + i
	}
	all[0x94D] = 9
	return all
}

var pairs = strings.Fields("a\u0300 a\u0301 a\u0302 a\u0308 e\u0300 e\u0301 e\u0302 e\u0308 i\u0300 i\u0301 i\u0302 i\u0308 " +
	"o\u0300 o\u0301 o\u0302 o\u0308 u\u0300 u\u0301 u\u0302 u\u0308 a\u0303 n\u0303 o\u0303 c\u0327 a\u030A y\u0301 y\u0308")

var (
	capitals    = regexp.MustCompile(`[A-Z]`)
	ascii       = regexp.MustCompile(`^[\x00-\x7F]*$`)
	hyphens     = regexp.MustCompile(`^-|-$|^..--`)
	bothDigits  = regexp.MustCompile(`[٠-٩].*[۰-۹]|[۰-۹].*[٠-٩]`)
	joinedAhead = regexp.MustCompile(`DT*$`)
	joinedBack  = regexp.MustCompile(`^T*[DR]`)
)

// joinings writes a letter for each sign: its joining, or a dot.
func joinings(row []rune) string {
	var b strings.Builder
	for _, sign := range row {
		b.WriteString((documented[int(sign)].joining + ".")[:1])
	}
	return b.String()
}

func scriptAt(row []rune, place int) string {
	if place < 0 || place >= len(row) {
		return ""
	}
	return documented[int(row[place])].script
}

func conditionInWords(row []rune, place int) bool {
	ahead, behind := string(row[:place]), string(row[place+1:])
	afterVirama := strings.HasSuffix(ahead, "\u094D")
	switch sign := row[place]; sign {
	case 0xB7:
		return strings.HasSuffix(ahead, "l") && strings.HasPrefix(behind, "l")
	case 0x375:
		return scriptAt(row, place+1) == "Greek"
	case 0x5F3, 0x5F4:
		return scriptAt(row, place-1) == "Hebrew"
	case 0x30FB:
		for i := range row {
			if s := scriptAt(row, i); s == "Hiragana" || s == "Katakana" || s == "Han" {
				return true
			}
		}
		return false
	case 0x200D:
		return afterVirama
	case 0x200C:
		return afterVirama || joinedAhead.MatchString(joinings(row[:place])) && joinedBack.MatchString(joinings(row[place+1:]))
	}
	return !bothDigits.MatchString(string(row))
}

func faultInWords(text string) api.Errno {
	row := []rune(text)
	for _, sign := range row {
		if documented[int(sign)].kind == 0 {
			return api.ErrSign
		}
	}
	if hyphens.MatchString(text) {
		return api.ErrHyphen
	}
	if documented[int(row[0])].kind == 4 {
		return api.ErrMark
	}
	for _, pair := range pairs {
		if strings.Contains(text, pair) {
			return api.ErrForm
		}
	}
	for i := range len(row) - 1 {
		first, isMark := heights[row[i]]
		second, areMarks := heights[row[i+1]]
		if isMark && areMarks && first > second {
			return api.ErrForm
		}
	}
	for place, sign := range row {
		if documented[int(sign)].kind == 5 && !conditionInWords(row, place) {
			return api.ErrContext
		}
	}
	return api.OK
}

func labelInWords(text string) (string, string, api.Errno) {
	if !utf8.ValidString(text) {
		return "", "", api.ErrUTF8
	}
	if text == "" {
		return "", "", api.ErrEmpty
	}
	if ascii.MatchString(text) {
		text = capitals.ReplaceAllStringFunc(text, func(s string) string { return string(s[0] + 32) })
		if strings.HasPrefix(text, "xn--") {
			plain, errno := puny.Decode(text[4:])
			if errno != api.OK || ascii.MatchString(plain) {
				return "", "", api.ErrPuny
			}
			text = plain
		}
	}
	if errno := faultInWords(text); errno != api.OK {
		return "", "", errno
	}
	form := text
	if !ascii.MatchString(text) {
		encoded, errno := puny.Encode(text)
		if errno != api.OK {
			return "", "", api.ErrLong
		}
		form = "xn--" + encoded
	}
	if len(form) > 63 {
		return "", "", api.ErrLong
	}
	return text, form, api.OK
}
