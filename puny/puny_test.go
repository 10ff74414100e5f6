package puny

import (
	"strings"
	"testing"
	"unicode/utf8"

	"manor/api"
)

// forms are texts and their ASCII forms, by which either way is tried.
var forms = []struct{ text, form string }{
	// The examples of DOC.md, and the least there is.
	{"", ""},
	{"bücher", "bcher-kva"},
	{"a", "a-"},
	{"ü", "tda"},
	// ASCII signs alone, separators and what is no letter among them.
	{"-", "--"},
	{"--", "---"},
	{"a-b", "a-b-"},
	{"ABC xyz 019", "ABC xyz 019-"},
	{"\x00\x7f", "\x00\x7f-"},
	// The ends of what is a sign.
	{"\u0080", "a"},
	{"\ud7ff", "hb9b"},
	{"\ue000", "0y0c"},
	{"\U0010ffff", "dn32g"},
	{"\U0010ffffa", "a-g023p"},
	{"a\U0010ffff", "a-h023p"},
	{"\ue000\ud7ff", "hb9bj0m"},
	{"\u0080\ud7ff\ue000", "a8441iw9e"},
	// The same sign several times, and separators beside the others.
	{"\u0080\u0080\u0080", "aaa"},
	{"\u0080-", "--a"},
	{"-\u0080", "--ba"},
	{"ü-ü", "--dhab"},
	// Whole sentences.
	{"他们为什么不说中文", "ihqwcrb4cv8a8dqg056pqjye"},
	{"他們爲什麽不說中文", "ihqwctvzc91f659drss3x8bo0yb"},
	{"למההםפשוטלאמדבריםעברית", "4dbcagdahymbxekheh6e0a7fei0b"},
	{"почемужеонинеговорятпорусски", "b1abfaaepdrnnbgefbadotcwatmq2g4l"},
	{"なぜみんな日本語を話してくれないのか", "n8jok5ay5dzabd5bym9f0cm5685rrjetr6pdxa"},
	{"PorquénopuedensimplementehablarenEspañol", "PorqunopuedensimplementehablarenEspaol-fmd56a"},
	{"安室奈美恵-with-SUPER-MONKEYS", "-with-SUPER-MONKEYS-pc58ag80a8qai00g7n9n"},
	{"Hello-Another-Way-それぞれの場所", "Hello-Another-Way--fc4qua05auwb3674vfr0b"},
	{"MajiでKoiする5秒前", "MajiKoi5-783gue6qz075azm5e"},
}

func wantEncoded(t *testing.T, text, form string, errno api.Errno) {
	t.Helper()
	if got, e := Encode(text); got != form || e != errno {
		t.Errorf("P2: Encode(%.60q) = %.60q, %d, want %.60q, %d", text, got, e, form, errno)
	}
}

func wantDecoded(t *testing.T, form, text string, errno api.Errno) {
	t.Helper()
	if got, e := Decode(form); got != text || e != errno {
		t.Errorf("P2: Decode(%.60q) = %.60q, %d, want %.60q, %d", form, got, e, text, errno)
	}
}

func TestForms(t *testing.T) {
	for _, c := range forms {
		wantEncoded(t, c.text, c.form, api.OK)
		wantDecoded(t, c.form, c.text, api.OK)
	}
}

func TestEncodeNoUTF8(t *testing.T) {
	for _, text := range []string{
		"\x80", "\xff", "a\xc3", "\xc3a", "ü\xbc",
		"\xc0\x80", "\xc1\xbf", "\xe0\x9f\xbf", "\xf0\x8f\xbf\xbf", // longer than need be
		"\xed\xa0\x80", "\xed\xbf\xbf", // U+D800, U+DFFF
		"\xf4\x90\x80\x80", "\xf8\x88\x80\x80\x80", // above U+10FFFF
		"\xf0\x9f\x98", "\xe4\xb8",
	} {
		wantEncoded(t, text, "", api.ErrUTF8)
	}
	// What is neither UTF-8 nor short enough tells the error named first.
	wantEncoded(t, strings.Repeat("a", 1000)+"\xff", "", api.ErrUTF8)
	wantEncoded(t, strings.Repeat("\xff", 5000), "", api.ErrUTF8)
	// U+FFFD is a sign, though it is also what Go reads where there is none.
	if _, e := Encode("\ufffd"); e != api.OK {
		t.Errorf("P2: Encode of U+FFFD: %d", e)
	}
}

func TestEncodeLength(t *testing.T) {
	ascii := strings.Repeat("a", 1000)
	wantEncoded(t, ascii, ascii+"-", api.OK)
	wantEncoded(t, ascii+"a", "", api.ErrLong)
	wantEncoded(t, strings.Repeat("\u0080", 500), strings.Repeat("a", 500), api.OK)
	// Bytes count, not signs.
	wantEncoded(t, strings.Repeat("ü", 500)+"a", "", api.ErrLong)
	wantEncoded(t, strings.Repeat("😀", 251), "", api.ErrLong)
	wantEncoded(t, strings.Repeat("a", 1<<20), "", api.ErrLong)
}

func TestDecodeLength(t *testing.T) {
	ascii := strings.Repeat("a", 999)
	wantDecoded(t, ascii+"-", ascii, api.OK)
	wantDecoded(t, ascii+"a-", "", api.ErrPuny)
	// The text may be longer than its form may be.
	wantDecoded(t, strings.Repeat("a", 1000), strings.Repeat("\u0080", 1000), api.OK)
	wantDecoded(t, strings.Repeat("a", 1001), "", api.ErrPuny)
	wantDecoded(t, strings.Repeat("a", 1<<20), "", api.ErrPuny)
}

func TestDecodeNoForm(t *testing.T) {
	for why, list := range map[string][]string{
		"a byte that is none of ASCII":     {"\x80", "\xff", "ü", "ü-", "bü-kva", "bcher-kvaü", "tda\xff", "tda-\x80", "\xc3-"},
		"nothing ahead of the only hyphen": {"-", "-a", "-tda", "-kva"},
		"a byte that is no digit": {"bcher-KVA", "bcher-Kva", "bcher-kvA", "A", "Z", "TDA", "tda_", "_", " ", "tda ", "\x00", "tda\x00", "\x7f",
			"a-b_", "a-/", "a-:", "a-@", "a-[", "a-`", "a-{", "bcher kva", "a-b-c d", "/", ":", "`", "{", "."},
		"a number that ends ahead of its last digit": {"k", "b", "z", "9", "kv", "td", "bcher-k", "bcher-kv", "a-b", "a-b-c", "tda9", "0y0", "dn32"},
		"a number that leads past U+10FFFF":          {"en32g", "a-i023p", "99999999", "99999999a", "a-99999999999999", "a-999999999999999a", "dn32gc", strings.Repeat("9", 400), strings.Repeat("9", 999) + "a", strings.Repeat("z", 1000)},
		"a number that leads to U+D800 to U+DFFF":    {"ib9b", "zy0c", "a-qc4g", "a-rc4g", "a-po7g", "a-qo7g"},
	} {
		for _, form := range list {
			if got, e := Decode(form); got != "" || e != api.ErrPuny {
				t.Errorf("P2: Decode(%.40q) = %.40q, %d, but there is %s", form, got, e, why)
			}
		}
	}
}

// Every ASCII byte that is neither a digit nor a separator, at places where
// some digit would make a number.
func TestDecodeNoDigit(t *testing.T) {
	for letter := range 0x80 {
		if letter == '-' || 'a' <= letter && letter <= 'z' || '0' <= letter && letter <= '9' {
			continue
		}
		for _, around := range [][2]string{{"", ""}, {"", "da"}, {"t", "a"}, {"td", ""}, {"tda", ""}, {"tda", "a"}, {"bcher-", "va"}, {"bcher-kv", ""}, {"bcher-kva", ""}, {"a-b-tda", "a"}} {
			wantDecoded(t, around[0]+string(rune(letter))+around[1], "", api.ErrPuny)
		}
	}
}

// Around both ends of what is no sign, and at the very end, either way.
func TestEdgesOfSigns(t *testing.T) {
	wantDecoded(t, "hb9b", "\ud7ff", api.OK)
	wantDecoded(t, "ib9b", "", api.ErrPuny)
	wantDecoded(t, "zy0c", "", api.ErrPuny)
	wantDecoded(t, "0y0c", "\ue000", api.OK)
	wantDecoded(t, "dn32g", "\U0010ffff", api.OK)
	wantDecoded(t, "en32g", "", api.ErrPuny)
	wantDecoded(t, "a-pc4g", "a\ud7ff", api.OK)
	wantDecoded(t, "a-ro7g", "\ue000a", api.OK)
	wantDecoded(t, "a-h023p", "a\U0010ffff", api.OK)
	wantDecoded(t, "a-i023p", "", api.ErrPuny)
	// With U+10FFFF there already, its other places are all that is left.
	wantDecoded(t, "dn32ga", "\U0010ffff\U0010ffff", api.OK)
	wantDecoded(t, "dn32gb", "", api.ErrPuny)
}

func TestThereAndBack(t *testing.T) {
	for _, text := range []string{
		strings.Repeat("a", 999), strings.Repeat("ü", 500), strings.Repeat("😀", 250),
		strings.Repeat("aü", 250), strings.Repeat("üa-", 150), "zyxüÿü",
		"a\U0010ffffb\u0080c\U0010ffff", "\U0010ffff\u0080\U0010ffff\u0080", "\ud7ff\ue000\ufffd\uffff",
	} {
		form, e := Encode(text)
		if e != api.OK || len(form) > 1000 {
			t.Errorf("P2: Encode(%.40q): %d, %d bytes", text, e, len(form))
			continue
		}
		wantDecoded(t, form, text, api.OK)
	}
}

// A number may be written in one way alone: whatever short form is read comes
// out again when its text is written.
func TestEveryShortForm(t *testing.T) {
	const letters = digits + "-A"
	for begin, length := range map[string]int{"": 4, "a-": 3, "tda": 3, "ab-kva": 2, "dn32g": 3} {
		everyText(letters, begin, length, func(form string) { checkForm(t, form) })
	}
}

// everyText visits every text of those letters that is no longer than length.
func everyText(letters, begin string, length int, visit func(string)) {
	visit(begin)
	if length == 0 {
		return
	}
	for _, letter := range letters {
		everyText(letters, begin+string(letter), length-1, visit)
	}
}

// checkForm holds of any text that is taken for a form.
func checkForm(t *testing.T, form string) {
	t.Helper()
	text, e := Decode(form)
	if again, f := Decode(form); again != text || f != e {
		t.Errorf("P1: Decode(%q) answers otherwise the second time", form)
	}
	switch {
	case e == api.ErrPuny:
		if text != "" {
			t.Errorf("P1: Decode(%q) = %q beside an error", form, text)
		}
	case e != api.OK:
		t.Errorf("P2: Decode(%q): %d", form, e)
	case !utf8.ValidString(text):
		t.Errorf("P2: Decode(%q) = %q, which is no UTF-8", form, text)
	case len(text) <= 1000:
		if back, f := Encode(text); back != form || f != api.OK {
			t.Errorf("P2: Decode(%q) = %q, whose form is %q, %d", form, text, back, f)
		}
	}
}

// checkText holds of any text that is to be written.
func checkText(t *testing.T, text string) {
	t.Helper()
	form, e := Encode(text)
	if again, f := Encode(text); again != form || f != e {
		t.Errorf("P1: Encode(%q) answers otherwise the second time", text)
	}
	want := api.OK
	switch {
	case !utf8.ValidString(text):
		want = api.ErrUTF8
	case len(text) > 1000:
		want = api.ErrLong
	}
	if e != want || e != api.OK && form != "" {
		t.Errorf("P1: Encode(%q) = %q, %d, want %d", text, form, e, want)
	}
	if e != api.OK || len(form) > 1000 {
		return
	}
	if back, f := Decode(form); back != text || f != api.OK {
		t.Errorf("P2: Encode(%q) = %q, which is read as %q, %d", text, form, back, f)
	}
}

func FuzzBothWays(f *testing.F) {
	for _, c := range forms {
		f.Add(c.text)
		f.Add(c.form)
	}
	f.Add("\xff")
	f.Add(strings.Repeat("9", 1001))
	f.Fuzz(func(t *testing.T, text string) {
		checkForm(t, text)
		checkText(t, text)
	})
}

// numbers is a plain row of numbers that look mixed and are always the same.
type numbers uint32

func (n *numbers) below(end int) int {
	*n = *n*1664525 + 1013904223
	return int(*n>>8) % end
}

// P1: whatever bytes there are, each call ends, and answers as it must.
func TestAnyBytes(t *testing.T) {
	const common = "aaabz09-kv\x00A_\x80\xbc\xc3\xe4\xf0\xff"
	var n numbers = 1
	for range 20000 {
		mixed := make([]byte, n.below(30))
		for i := range mixed {
			mixed[i] = common[n.below(len(common))]
		}
		checkForm(t, string(mixed))
		checkText(t, string(mixed))
	}
	for range 200 {
		long := make([]byte, 990+n.below(20))
		for i := range long {
			long[i] = digits[n.below(len(digits))]
		}
		checkForm(t, string(long))
		checkText(t, string(long))
	}
}
