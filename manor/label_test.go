package manor

import (
	"math/rand"
	"strings"
	"testing"

	"manor/api"
	"manor/puny"
)

func checkLabel(t *testing.T, text, label, form string, errno api.Errno) {
	t.Helper()
	l, f, e := Label(text)
	if l != label || f != form || e != errno {
		t.Errorf("P4: Label(%+.80q) = %+.80q, %.80q, %d, want %+.80q, %.80q, %d", text, l, f, e, label, form, errno)
	}
}

// checkWords holds Label against the document's words, and a good label's two
// forms against themselves (P7).
func checkWords(t *testing.T, text string) {
	t.Helper()
	label, form, errno := labelInWords(text)
	checkLabel(t, text, label, form, errno)
	if errno == api.OK {
		checkLabel(t, label, label, form, api.OK)
		checkLabel(t, form, label, form, api.OK)
		checkLabel(t, strings.ToUpper(form), label, form, api.OK)
	}
}

func TestGoodLabels(t *testing.T) {
	for _, c := range []struct{ text, label, form string }{
		{"bucher", "bucher", "bucher"}, {"BUCHER", "bucher", "bucher"}, {"bücher", "bücher", "xn--bcher-kva"},
		{"xn--bcher-kva", "bücher", "xn--bcher-kva"}, {"XN--BCHER-KVA", "bücher", "xn--bcher-kva"}, {"xN--bCHER-kvA", "bücher", "xn--bcher-kva"},
		{"a", "a", "a"}, {"Z", "z", "z"}, {"0", "0", "0"}, {"AZ09az", "az09az", "az09az"},
		{"ü", "ü", "xn--tda"}, {"xn--tda", "ü", "xn--tda"}, {"faß", "faß", "xn--fa-hia"}, {"漢字", "漢字", "xn--p8s937b"},
		{"a-b", "a-b", "a-b"}, {"a--b", "a--b", "a--b"}, {"abc--d", "abc--d", "abc--d"}, {"ab-c", "ab-c", "ab-c"}, {"abc-d", "abc-d", "abc-d"},
		{"xn", "xn", "xn"}, {"xn-a", "xn-a", "xn-a"}, {"axn--b", "axn--b", "axn--b"},
		{"l·l", "l·l", "xn--ll-0ea"}, {"XN--LL-0EA", "l·l", "xn--ll-0ea"},
	} {
		checkLabel(t, c.text, c.label, c.form, api.OK)
	}
}

func TestWrongLabels(t *testing.T) {
	for errno, texts := range map[api.Errno][]string{
		api.ErrUTF8:  {"\xff", "a\x80", "\xc3", "xn--\xff", "xn--bcher-kva\xc3", "\xed\xa0\x80", "\xf4\x90\x80\x80", "\xc0\xad"},
		api.ErrEmpty: {""},
		api.ErrPuny: {"xn--", "XN--", "xn---", "xn----", "xn--a-", "XN--A-", "xn--bucher-", "xn--k", "xn--bcher-kv", "xn--bcher-kva_",
			"xn--bcher.kva", "xn--99999999", "xn--_", "xn-- ", "xn---tda", "xn--" + strings.Repeat("a", 1001)},
		api.ErrSign: {"Bücher", "Ü", "XN--ü", "a_b", "a.b", ".", "a b", " ", "a\x00", "a\x7f", "\u0080", "÷", "č", "ü_", "😀", "ー",
			"xn--a", "xn--e28h", "xn--_-eha", "\u0340a", "a\u034f", "\ufffd", "\U0010ffff", "a\u3002b"},
		api.ErrHyphen: {"-", "--", "-a", "a-", "ab--c", "ab--", "AB--C", "a---b", "ü-", "-ü", "üb--c", "üü--ü", "xm--a", "xo--a",
			"xn----dha", "xn----eha", "xn--xn---3ra", "xn--ab---3ra"},
		api.ErrMark: {"\u0301", "\u0301a", "\u0300\u0301", "\u064b", "\u094d", "\u094d\u200d", "xn--tda74h"},
		api.ErrForm: {"u\u0308", "xu\u0308", "u\u0308x", "o\u0303\u0301", "x\u0301\u0323", "x\u0323\u0327", "x\u0301\u094d", "x\u064c\u064b",
			"x\u064b\u094d", "x\u0327\u0652", "xn--u-ccb"},
		api.ErrContext: {"·", "l·", "·l", "a·l", "l·a", "l··l", "\u0375", "α\u0375", "\u0375a", "\u05f3", "\u05f4א", "a\u05f3", "a\u05f3א",
			"・", "a・", "α・", "\u0660\u06f0", "\u06f9\u0669", "\u0660a\u06f0", "\u200c", "\u200d", "a\u200c", "क\u200d", "xn--0ug", "xn--uba"},
		api.ErrLong: {strings.Repeat("a", 64), strings.Repeat("A", 64), strings.Repeat("a", 1001), strings.Repeat("ü", 1001), strings.Repeat("漢a", 30)},
	} {
		for _, text := range texts {
			checkLabel(t, text, "", "", errno)
		}
	}
}

// A text that is not ASCII is never decoded, so the prefix is but hyphens at a
// wrong place in it.
func TestPrefixAheadOfOtherSigns(t *testing.T) {
	for _, text := range []string{"xn--ü", "xn--bücher", "xn--bcher-kvaü"} {
		checkLabel(t, text, "", "", api.ErrHyphen)
	}
	checkLabel(t, "xn--Ü", "", "", api.ErrSign)
}

// P1: of several errors the one that is named first.
func TestFirstOfSeveralErrors(t *testing.T) {
	long := strings.Repeat("a", 64)
	for _, c := range []struct {
		errno api.Errno
		texts []string
	}{
		{api.ErrUTF8, []string{"_\xff", "-\xff", "\u0301\xff", "u\u0308\xff", "·\xff", long + "\xff", "xn--k\xff"}},
		{api.ErrPuny, []string{"xn--_", "xn---", "xn--" + long + "-", "xn--_" + long + "_"}},
		{api.ErrSign, []string{"-_", "_-", "ab--_", "\u0301_", "u\u0308_", "·_", long + "_", long + "é÷"}},
		{api.ErrHyphen, []string{"\u0301-", "-\u0301", "\u0301b--c", "u\u0308-", "-x\u0301\u0323", "·-", "-" + long, long + "-", "ab--" + long}},
		{api.ErrMark, []string{"\u0301\u0300", "\u0301\u0323", "\u0301u\u0308", "\u0301·", "\u0301" + long}},
		{api.ErrForm, []string{"·u\u0308", "x\u0301\u0323·", "u\u0308" + long, "\u0660\u06f0e\u0301"}},
		{api.ErrContext, []string{"·" + long, long + "\u200d", strings.Repeat("\u0660\u06f0", 600)}},
	} {
		for _, text := range c.texts {
			checkLabel(t, text, "", "", c.errno)
		}
	}
}

func TestLengths(t *testing.T) {
	for _, length := range []int{1, 62, 63, 64, 65, 999, 1000, 1001, 5000} {
		text := strings.Repeat("a", length)
		if length <= api.MaxLabel {
			checkLabel(t, text, text, text, api.OK)
			checkLabel(t, strings.ToUpper(text), text, text, api.OK)
		} else {
			checkLabel(t, text, "", "", api.ErrLong)
		}
	}
	longest := 0
	for length := range 80 {
		text := strings.Repeat("a", length) + "ü"
		encoded, _ := puny.Encode(text)
		form := "xn--" + encoded
		if len(form) > 63 {
			checkLabel(t, text, "", "", api.ErrLong)
			checkLabel(t, form, "", "", api.ErrLong)
			continue
		}
		checkLabel(t, text, text, form, api.OK)
		checkLabel(t, form, text, form, api.OK)
		longest = max(longest, len(form))
	}
	if longest != 63 {
		t.Errorf("P4: the longest form tried that fits has %d signs", longest)
	}
}

// What is decoded may have more bytes than puny encodes.
func TestDecodedTooLongToEncode(t *testing.T) {
	form, _ := puny.Encode(strings.Repeat("漢", 333))
	form += strings.Repeat("a", 10)
	plain, errno := puny.Decode(form)
	if errno != api.OK || len(plain) <= 1000 {
		t.Fatalf("P2: Decode answers %d bytes, %d", len(plain), errno)
	}
	checkLabel(t, "xn--"+form, "", "", api.ErrLong)
}

func TestEachSign(t *testing.T) {
	for sign := rune(0); sign <= api.MaxSign; sign++ {
		if 0xD800 <= sign && sign <= 0xDFFF {
			continue
		}
		checkWords(t, string(sign))
		checkWords(t, "x"+string(sign))
		if t.Failed() {
			t.Fatalf("P4: at U+%04X", sign)
		}
	}
}

// Each mark behind each letter, and each behind each other.
func TestNeighboursOfMarks(t *testing.T) {
	found := 0
	for mark := range heights {
		for letter := rune('a'); letter < 0x3D0; letter++ {
			if documented[int(letter)].kind != 1 {
				continue
			}
			text := string(letter) + string(mark)
			checkWords(t, text)
			checkWords(t, "x"+text+"x")
			if _, _, errno := Label(text); errno == api.ErrForm {
				found++
			}
		}
		for other := range heights {
			checkWords(t, "x"+string(mark)+string(other))
			checkWords(t, "x"+string(mark)+"x"+string(other))
		}
	}
	if found != 27 {
		t.Errorf("P4: %d pairs, want 27", found)
	}
}

func TestHeights(t *testing.T) {
	steps := []string{"\u094d", "\u064b", "\u064c", "\u064d", "\u064e", "\u064f", "\u0650", "\u0651", "\u0652", "\u0327", "\u0323", "\u0301"}
	for i, low := range steps {
		for _, high := range steps[i+1:] {
			checkLabel(t, "x"+high+low, "", "", api.ErrForm)
			checkWords(t, "x"+low+high)
			if _, _, errno := Label("x" + low + high); errno != api.OK {
				t.Errorf("P4: %+q ahead of %+q: %d", low, high, errno)
			}
		}
	}
	for _, same := range []string{"\u0327\u0328", "\u0328\u0327", "\u0316\u0333", "\u0333\u0316", "\u0300\u036f", "\u036f\u0300", "\u0301\u0301", "\u064b\u064b"} {
		if _, _, errno := Label("x" + same); errno != api.OK {
			t.Errorf("P4: %+q, which are as high as each other: %d", same, errno)
		}
	}
}

func TestConditions(t *testing.T) {
	for _, c := range []struct{ good, wrong []string }{
		{[]string{"l·l", "l·l·l", "al·la"}, []string{"·", "l·", "·l", "l·m", "m·l", "l··l", "ll·", "l\u0323·l"}},
		{[]string{"\u0375α", "\u0375\u0375α", "a\u0375ά", "\u0375ώ"}, []string{"\u0375", "α\u0375", "\u0375a", "\u0375\u0301α", "\u0375-α", "\u0375א"}},
		{[]string{"א\u05f3", "ת\u05f4", "א\u05f3\u05f4", "aא\u05f4a"}, []string{"\u05f3", "\u05f3א", "a\u05f4", "\u05f4\u05f3", "א\u0301\u05f3", "α\u05f3"}},
		{[]string{"・ぁ", "a・ァ", "漢・・", "・a漢", "ゖ・"}, []string{"・", "a・", "・・", "α・", "ب・"}},
		{[]string{"\u0660\u0669", "a\u0660", "\u06f0\u06f9", "0\u06f0", "0\u0660"}, []string{"\u0660\u06f0", "\u06f0\u0660", "\u0669a\u06f9", "\u06f9\u0669\u06f9"}},
		{[]string{"क\u094d\u200d", "क\u094d\u200dक", "a\u094d\u200d"}, []string{"\u200d", "a\u200d", "क\u200d", "क\u094dक\u200d", "ب\u200dب", "क\u094d\u200d\u200d", "\u200d\u094d", "क\u094d\u0301\u200d"}},
		{[]string{"क\u094d\u200c", "ب\u200cب", "ب\u200cا", "ب\u064b\u200cب", "ب\u200c\u064bب", "ب\u064b\u0651\u200c\u0301\u0301ة", "ي\u200cى", "aب\u200cو", "ا\u094d\u200ca"},
			[]string{"\u200c", "ب\u200c", "\u200cب", "ا\u200cب", "ة\u200cب", "و\u200cب", "ب\u200ca", "بa\u200cب", "ب\u200caب", "ب\u200c\u200cب", "ب\u064b\u200c", "ب\u200c\u064b", "a\u064b\u200cب", "ب-\u200cب"}},
	} {
		for _, text := range c.good {
			form, _ := puny.Encode(text)
			checkLabel(t, text, text, "xn--"+form, api.OK)
			checkWords(t, text)
		}
		for _, text := range c.wrong {
			checkLabel(t, text, "", "", api.ErrContext)
			checkWords(t, text)
		}
	}
}

// Each sign that may be in a label, as the neighbour of each condition that
// asks for a script or a joining.
func TestConditionsWithEachSign(t *testing.T) {
	for sign := range documented {
		s := string(rune(sign))
		for _, text := range []string{
			"\u0375" + s, "x" + s + "\u05f3", "x" + s + "・",
			"x" + s + "\u200cب", "ب\u200c" + s, "ب" + s + "\u200cب", "ب\u200c" + s + "ب",
			"x" + s + "\u200c", "x" + s + "\u200d",
		} {
			checkWords(t, text)
		}
		if t.Failed() {
			t.Fatalf("P4: at U+%04X", sign)
		}
	}
}

// short calls with every text of at most so many of the signs.
func short(signs []rune, most int, call func(string)) {
	var grow func(string, int)
	grow = func(text string, left int) {
		call(text)
		if left == 0 {
			return
		}
		for _, sign := range signs {
			grow(text+string(sign), left-1)
		}
	}
	grow("", most)
}

func TestEveryShortLabel(t *testing.T) {
	for _, c := range []struct {
		signs string
		most  int
	}{
		{"l·aü", 6},
		{"α\u0375a\u0301", 5},
		{"א\u05f3\u05f4a", 5},
		{"・あア漢a-", 5},
		{"\u0660\u0669\u06f0\u06f90a", 5},
		{"باक\u064b\u094d\u200c\u200da", 5},
		{"a-ü_", 6},
		{"xn-aü", 7},
		{"u\u0308\u0323\u0327c", 5},
	} {
		short([]rune(c.signs), c.most, func(text string) { checkWords(t, text) })
	}
}

// Every short form behind the prefix: what is good comes out as it went in.
func TestEveryShortForm(t *testing.T) {
	short([]rune("ab-k9"), 5, func(form string) {
		checkWords(t, "xn--"+form)
		if _, got, errno := Label("xn--" + form); errno == api.OK && got != "xn--"+form {
			t.Errorf("P7: Label(%q) has the form %q", "xn--"+form, got)
		}
	})
}

// pieces are what labels are made of at random.
var pieces = strings.Fields("a b e l n u y 0 9 - xn-- · l·l \u0375 α ώ א ת \u05f3 \u05f4 ا ب ة و ي \u064b \u0652 \u0660 \u0669 \u06f0 " +
	"अ क \u094d \u200c \u200d ب\u200cب क\u094d\u200d あ ア 漢 ・ ü ß \u0300 \u0301 \u0308 \u0316 \u0323 \u0327 \u036f A B _ . \u0340 😀 \xff")

func TestLabelsAtRandom(t *testing.T) {
	source := rand.New(rand.NewSource(4))
	for range 200000 {
		var text strings.Builder
		few := 1 + source.Intn(len(pieces))
		for range source.Intn(12) {
			text.WriteString(pieces[source.Intn(few)])
		}
		checkWords(t, text.String())
		if encoded, errno := puny.Encode(text.String()); errno == api.OK {
			checkWords(t, "xn--"+encoded)
		}
		if t.Failed() {
			t.Fatal("P4: and so on")
		}
	}
}

// Very long texts, of the kinds that would take the square of the time if
// each sign were held against all others.
func TestVeryLongLabels(t *testing.T) {
	const many = 300000
	for _, text := range []string{
		strings.Repeat("・", many) + "漢",
		strings.Repeat("\u0660", many),
		strings.Repeat("\u06f0", many),
		strings.Repeat("l·", many) + "l",
		strings.Repeat("\u0375", many) + "α",
		"א" + strings.Repeat("\u05f3", many),
		"ب" + strings.Repeat("\u064b", many) + "\u200c" + strings.Repeat("\u064b", many) + "ب",
		"ب" + strings.Repeat("\u200cب", many),
		"x" + strings.Repeat("\u0301", many),
		"xx" + strings.Repeat("漢字", many),
		strings.Repeat("a", many),
	} {
		checkLabel(t, text, "", "", api.ErrLong)
	}
	checkLabel(t, strings.Repeat("・", many), "", "", api.ErrContext)
	checkLabel(t, strings.Repeat("\u0660", many)+"\u06f0", "", "", api.ErrContext)
	checkLabel(t, "ب"+strings.Repeat("\u064b", many)+"\u200c", "", "", api.ErrContext)
	checkLabel(t, strings.Repeat("-", many), "", "", api.ErrHyphen)
	checkLabel(t, strings.Repeat("a", many)+"_", "", "", api.ErrSign)
	checkLabel(t, "xn--"+strings.Repeat("9", many), "", "", api.ErrPuny)
}

func FuzzLabel(f *testing.F) {
	for _, piece := range pieces {
		f.Add(piece)
		f.Add("x" + piece)
		f.Add("xn--" + piece)
	}
	f.Add("xn--bcher-kva")
	f.Fuzz(checkWords)
}
