package manor

import (
	"math/rand"
	"slices"
	"strings"
	"testing"

	"manor/api"
)

func checkName(t *testing.T, text, name, form string, number int, errno api.Errno) {
	t.Helper()
	n, f, i, e := Name(text)
	if n != name || f != form || i != number || e != errno {
		t.Errorf("P5: Name(%+.80q) = %+.80q, %.80q, %d, %d, want %+.80q, %.80q, %d, %d", text, n, f, i, e, name, form, number, errno)
	}
}

func checkWrongName(t *testing.T, text string, number int, errno api.Errno) {
	t.Helper()
	checkName(t, text, "", "", number, errno)
}

// checkGoodName holds both forms of a good name against themselves, too (P7).
func checkGoodName(t *testing.T, text, name, form string) {
	t.Helper()
	for _, same := range []string{text, name, form, strings.ToUpper(form)} {
		checkName(t, same, name, form, 0, api.OK)
	}
}

// checkNameWords holds Name against the document's words.
func checkNameWords(t *testing.T, text string) {
	t.Helper()
	name, form, number, errno := nameInWords(text)
	if errno == api.OK {
		checkGoodName(t, text, name, form)
	} else {
		checkWrongName(t, text, number, errno)
	}
}

func TestGoodNames(t *testing.T) {
	for _, c := range []struct{ text, name, form string }{
		{"www.bücher", "www.bücher", "www.xn--bcher-kva"}, {"www.bücher.", "www.bücher.", "www.xn--bcher-kva."},
		{"WWW.XN--BCHER-KVA.", "www.bücher.", "www.xn--bcher-kva."}, {"WWW.bücher", "www.bücher", "www.xn--bcher-kva"},
		{"xn--bcher-kva.bücher.Bucher", "bücher.bücher.bucher", "xn--bcher-kva.xn--bcher-kva.bucher"},
		{"a", "a", "a"}, {"a.", "a.", "a."}, {"ü", "ü", "xn--tda"}, {"A.b.C.", "a.b.c.", "a.b.c."},
		{"1.2.3.4", "1.2.3.4", "1.2.3.4"}, {"1a.漢字", "1a.漢字", "1a.xn--p8s937b"}, {"1.ア・", "1.ア・", "1.xn--cckzj"},
		{"a1.אב", "a1.אב", "a1.xn--4dbc"}, {"XN--4DBC.A1.", "אב.a1.", "xn--4dbc.a1."},
	} {
		checkGoodName(t, c.text, c.name, c.form)
		checkNameWords(t, c.text)
	}
}

// P5: the number is that of the first label that is not good, whatever is
// wrong with those behind it or with the name as a whole.
func TestLabelsThatAreNotGood(t *testing.T) {
	long := strings.Repeat("a", 64)
	for _, c := range []struct {
		text   string
		number int
		errno  api.Errno
	}{
		{"", 0, api.ErrEmpty}, {".", 0, api.ErrEmpty}, {"..", 0, api.ErrEmpty}, {"...", 0, api.ErrEmpty},
		{"a..b", 1, api.ErrEmpty}, {"a..", 1, api.ErrEmpty}, {".a", 0, api.ErrEmpty}, {".a.", 0, api.ErrEmpty}, {"a.b..", 2, api.ErrEmpty},
		{"\xff", 0, api.ErrUTF8}, {"a.\xff", 1, api.ErrUTF8}, {"a.\xc3.b", 1, api.ErrUTF8}, {"a.b\xe3\x81.\x81", 1, api.ErrUTF8},
		{"a.xn--a-", 1, api.ErrPuny}, {"xn--.a", 0, api.ErrPuny}, {"a.xn--k.", 1, api.ErrPuny},
		{"a.b_.c", 1, api.ErrSign}, {"www.Bücher", 1, api.ErrSign}, {"a\u3002b", 0, api.ErrSign}, {"a.b\uff0ec", 1, api.ErrSign}, {"a. ", 1, api.ErrSign},
		{"a.b.-c", 2, api.ErrHyphen}, {"a-.b", 0, api.ErrHyphen}, {"a.ab--c", 1, api.ErrHyphen},
		{"a.\u0301", 1, api.ErrMark}, {"u.\u0308", 1, api.ErrMark}, {"a.u\u0308", 1, api.ErrForm},
		{"l.·.l", 1, api.ErrContext}, {"a.l·.l", 1, api.ErrContext}, {"\u30fb.ア", 0, api.ErrContext}, {"ア.\u30fb", 1, api.ErrContext},
		{"a." + long, 1, api.ErrLong}, {long + ".", 0, api.ErrLong}, {"a." + strings.Repeat("漢a", 30), 1, api.ErrLong},
		{"-._.\xff", 0, api.ErrHyphen}, {"_.\xff", 0, api.ErrSign}, {"a..\xff", 1, api.ErrEmpty},
		{"1.א.-", 2, api.ErrHyphen}, {"אa.-", 1, api.ErrHyphen}, {strings.Repeat("a.", 500) + "-", 500, api.ErrHyphen},
		{"1.א." + strings.Repeat("a.", 500) + "-.", 502, api.ErrHyphen},
	} {
		checkWrongName(t, c.text, c.number, c.errno)
		checkNameWords(t, c.text)
	}
}

// P5: no label need be sided unless a sign of another side is in one of them.
func TestNamesThatNeedNoSides(t *testing.T) {
	for _, text := range []string{"1", "1a", "1.a", "ア・", "・ア.1", "a\u06f1", "\u06f1.a", "क\u094d\u200d.9", "x\u0301.0\u0301", "1-1"} {
		name, form, number, errno := Name(text)
		if name != text || form == "" || number != 0 || errno != api.OK {
			t.Errorf("P5: Name(%+q) = %+q, %q, %d, %d", text, name, form, number, errno)
		}
		checkNameWords(t, text)
	}
}

// P5: one sign of the sides R, AL or AN, wherever it is, is enough.
func TestNamesThatNeedSides(t *testing.T) {
	for _, other := range []string{"א", "ת", "א\u05f4", "ا", "ب", "ي", "א\u0660", "ب\u0669", "ب1", "xn--4db", "XN--4DB"} {
		checkNameWords(t, other)
		if _, _, number, errno := Name("a." + other + ".b1."); number != 0 || errno != api.OK {
			t.Errorf("P5: beside %+q: %d, %d", other, number, errno)
		}
		checkWrongName(t, "1."+other, 0, api.ErrSide)
		checkWrongName(t, other+".1", 1, api.ErrSide)
		checkWrongName(t, "a."+other+".b.1a.2b.", 3, api.ErrSide)
		checkWrongName(t, "a.1a."+other+".2b", 1, api.ErrSide)
	}
	for _, text := range []string{"\u0660", "\u0669a", "\u0660\u0661", "a\u0660", "1\u0660", "1א", "aא", "אa", "aب", "ア・ب", "xn--8hb"} {
		checkWrongName(t, text, 0, api.ErrSide)
		checkWrongName(t, "a."+text, 1, api.ErrSide)
		checkWrongName(t, "1."+text, 0, api.ErrSide)
		checkNameWords(t, "b."+text)
	}
}

// P6, label by label beside one that is Hebrew.
func TestSidedLabels(t *testing.T) {
	for _, c := range []struct {
		sided bool
		texts []string
	}{
		{true, []string{"a", "ü", "α", "क", "あ", "ア", "漢", "a1", "a-1", "a-b", "a\u06f1", "a1\u06f1", "x\u0301", "x1\u0301\u0301", "l·l", "a\u0375α", "क\u094d", "क\u094d\u200cक", "ア・1"}},
		{false, []string{"1", "1a", "\u06f1a", "・ア", "\u0375α", "ア・", "ア・\u0301", "क\u094d\u200d", "क\u094d\u200d\u0301", "aא", "aאa", "aב1", "a-\u0301", "a1-\u0301", "aب", "aا1", "a\u0661", "a\u0661a"}},
		{true, []string{"א", "ב1", "א\u06f1", "א\u0661", "א-א", "א1א", "א-1", "א\u0661\u0662", "א\u05f3", "א\u05f4א", "א\u0301", "א1\u0301", "א\u0661\u0301\u0301", "אب", "א\u094d\u200dא"}},
		{true, []string{"ب", "ا", "ة", "ب1", "ب\u06f1", "ب\u0661", "ب\u064b", "ب\u0661\u064b", "ب-ب", "بא", "ب\u200cب", "ب\u0651\u200cا1"}},
		{false, []string{"אa", "אaא", "אü1", "א漢", "א-\u0301", "א1-\u0301", "א1\u0661", "א\u0661-1", "א\u094d\u200d", "א\u094d\u200d\u0301", "בア・א"}},
		{false, []string{"بa", "بaب", "ب1\u0661", "ب\u06611ب", "ب漢1", "ب\u094d\u200c", "1ب", "\u0661ب", "\u06f1ب", "\u0661", "\u06611", "\u0375αא"}},
	} {
		for _, text := range c.texts {
			form := mustForm(t, text)
			if c.sided {
				checkGoodName(t, "א."+text, "א."+text, "xn--4db."+form)
			} else {
				checkWrongName(t, "א."+text, 1, api.ErrSide)
				checkWrongName(t, "א."+form+".1", 1, api.ErrSide)
			}
			checkNameWords(t, "א."+text)
		}
	}
}

// mustForm is the form of a label that is good by itself.
func mustForm(t *testing.T, text string) string {
	t.Helper()
	_, form, errno := Label(text)
	if errno != api.OK {
		t.Fatalf("P4: Label(%+q) = %d", text, errno)
	}
	return form
}

// P6: the table itself, as not all sides make a difference that is seen from
// outside.
func TestSidesInTable(t *testing.T) {
	names := map[side]string{sideL: "L", sideR: "R", sideAL: "AL", sideEN: "EN", sideAN: "AN", sideES: "ES", sideNSM: "NSM", sideNone: "none"}
	for sign, e := range documented {
		if got := names[rowOf(sign).side]; got != e.side {
			t.Errorf("P6: the side of U+%04X is %q, want %q", sign, got, e.side)
		}
	}
}

// P6: the side of each sign, as the first, the last and an inner one.
func TestSideOfEachSign(t *testing.T) {
	for sign := range documented {
		s := string(rune(sign))
		for _, text := range []string{s, s + "a", "a" + s, "a" + s + "a", s + "א", "א" + s, "א" + s + "א", "א1" + s + "א", "א\u0661" + s + "א"} {
			checkNameWords(t, "א."+text)
		}
		checkNameWords(t, "1."+s)
		checkNameWords(t, "1.x"+s)
		if t.Failed() {
			t.Fatalf("P6: at U+%04X", sign)
		}
	}
}

// P6: a label of every few sides, by itself and beside labels of either side.
func TestEveryShortLabelBesideOthers(t *testing.T) {
	for _, signs := range []string{"aא1\u0661-\u0301", "lب\u06f1\u0661·\u064b", "ア・אا1\u0301"} {
		short([]rune(signs), 5, func(text string) {
			checkNameWords(t, text)
			checkNameWords(t, "a1."+text)
			checkNameWords(t, text+".א.")
		})
	}
}

func TestEveryShortName(t *testing.T) {
	for _, signs := range []string{".a-", ".a1א", ".A_ü"} {
		short([]rune(signs), 7, func(text string) { checkNameWords(t, text) })
	}
}

// P5: MaxName counts the signs of the ASCII form, and no dot at the end.
func TestLongNames(t *testing.T) {
	fours := strings.Repeat(strings.Repeat("a", 62)+".", 4)
	for _, c := range []struct {
		text string
		good bool
	}{
		{fours + "b", true}, {fours + "b.", true}, {fours + "bc", false}, {fours + "bc.", false},
		{strings.Repeat("a.", 127), true}, {strings.Repeat("a.", 126) + "a", true},
		{strings.Repeat("a.", 128), false}, {strings.Repeat("a.", 127) + "a", false},
		{strings.Repeat("a.", 123) + "xn--tda", true}, {strings.Repeat("a.", 124) + "xn--tda", false},
		{strings.Repeat("a.", 123) + "ü.", true}, {strings.Repeat("a.", 124) + "ü", false},
		{strings.Repeat("漢.", 31), true}, {strings.Repeat("漢.", 32), false}, {"漢" + strings.Repeat(".漢", 31), false},
	} {
		if _, _, _, errno := nameInWords(c.text); c.good != (errno == api.OK) {
			t.Errorf("P5: in words %+.80q is %d", c.text, errno)
		}
		checkNameWords(t, c.text)
		if !c.good {
			checkWrongName(t, c.text, 0, api.ErrName)
		}
	}
	for length := 240; length < 270; length++ {
		for _, text := range []string{strings.Repeat("a.", 135), fours + strings.Repeat("c", 63)} {
			checkNameWords(t, text[:length])
			checkNameWords(t, text[:length]+".")
		}
	}
}

// P5: a name may have more bytes than its form.
func TestLongNameWithAShortForm(t *testing.T) {
	label := strings.Repeat("漢", 50)
	form := mustForm(t, label)
	name := label + "." + label + "." + label
	if len(name) <= api.MaxName {
		t.Fatalf("P5: only %d bytes", len(name))
	}
	checkGoodName(t, name, name, form+"."+form+"."+form)
}

// P1: of several errors the one that is named first.
func TestFirstOfSeveralErrorsOfNames(t *testing.T) {
	many := strings.Repeat("a.", 130)
	checkWrongName(t, many+"א.1", 131, api.ErrSide)
	checkWrongName(t, "1."+many+"א.1", 0, api.ErrSide)
	checkWrongName(t, many+"א.1._", 132, api.ErrSign)
	checkWrongName(t, many+"א", 0, api.ErrName)
	checkWrongName(t, many+"1", 0, api.ErrName)
	checkWrongName(t, many+".", 130, api.ErrEmpty)
}

// P5: a single label as a name is what it is as a label, but for its sides.
func TestLabelsAsNames(t *testing.T) {
	for _, piece := range pieces {
		for _, text := range []string{piece, "x" + piece, "xn--" + piece} {
			if strings.Contains(text, ".") {
				continue
			}
			label, form, errno := Label(text)
			if errno == api.OK && !sidedInWords(label) && otherSided.MatchString(sides(label)) {
				label, form, errno = "", "", api.ErrSide
			}
			checkName(t, text, label, form, 0, errno)
		}
	}
}

// goodPieces make names whose labels are good more often than not.
var goodPieces = strings.Fields("a b 1 9 - ü ß α क 漢 ア ア・ l·l א ב ת א\u05f3 ا ب ي ب\u064b ب\u200cب \u0661 \u0662 \u06f1 x\u0301 क\u094d\u200d . .a א. . .")

func TestNamesAtRandom(t *testing.T) {
	source := rand.New(rand.NewSource(5))
	found := map[api.Errno]int{}
	for round := range 200000 {
		from := goodPieces
		if round%4 == 0 {
			from = slices.Concat(pieces, []string{".", ".", ".", "."})
		}
		var text strings.Builder
		few := 1 + source.Intn(len(from))
		for range source.Intn(14) {
			text.WriteString(from[source.Intn(few)])
		}
		checkNameWords(t, text.String())
		_, _, _, errno := Name(text.String())
		found[errno]++
		if t.Failed() {
			t.Fatal("P5: and so on")
		}
	}
	for errno := api.OK; errno <= api.ErrSide; errno++ {
		if errno != api.ErrPuny && errno != api.ErrLong && found[errno] < 100 {
			t.Errorf("P5: only %d names at random have %d", found[errno], errno)
		}
	}
}

// P7, of the forms of names at random, each label by itself in either form.
func TestNamesInMixedForms(t *testing.T) {
	source := rand.New(rand.NewSource(6))
	texts := strings.Fields("a a1 A-B bücher xn--bcher-kva XN--BCHER-KVA 漢字 l·l א אב1 ب\u0661 ب\u200cب x\u0301 α")
	for range 20000 {
		var labels, plains, forms []string
		for range 1 + source.Intn(5) {
			text := texts[source.Intn(len(texts))]
			plain, form, _ := Label(text)
			labels, plains, forms = append(labels, text), append(plains, plain), append(forms, form)
		}
		end := strings.Repeat(".", source.Intn(2))
		checkGoodName(t, strings.Join(labels, ".")+end, strings.Join(plains, ".")+end, strings.Join(forms, ".")+end)
	}
}

// P7: a form other than that of the decoded text is refused.
func TestOtherFormsOfNames(t *testing.T) {
	for _, form := range []string{"xn--bcher-kva", "xn--4dbc", "xn--ll-0ea"} {
		for place := 4; place < len(form); place++ {
			for _, digit := range "abkz059-" {
				text := "a." + form[:place] + string(digit) + form[place+1:]
				if _, got, _, errno := Name(text); errno == api.OK && got != text {
					t.Errorf("P7: Name(%q) has the form %q", text, got)
				}
				checkNameWords(t, text)
			}
		}
	}
}

// P1: very long names end, and soon.
func TestVeryLongNames(t *testing.T) {
	const many = 300000
	checkWrongName(t, strings.Repeat("a.", many), 0, api.ErrName)
	checkWrongName(t, strings.Repeat("א.", many), 0, api.ErrName)
	checkWrongName(t, strings.Repeat("a.", many)+"_", many, api.ErrSign)
	checkWrongName(t, strings.Repeat("a.", many)+"א.1.", many+1, api.ErrSide)
	checkWrongName(t, strings.Repeat("1.", many)+"א", 0, api.ErrSide)
	checkWrongName(t, strings.Repeat(".", many), 0, api.ErrEmpty)
	checkWrongName(t, strings.Repeat("a", many)+".a", 0, api.ErrLong)
	checkWrongName(t, "a.xn--"+strings.Repeat("9", many), 1, api.ErrPuny)
	checkWrongName(t, strings.Repeat("xn--tda.", many), 0, api.ErrName)
}

func FuzzName(f *testing.F) {
	for _, piece := range slices.Concat(goodPieces, pieces) {
		f.Add(piece)
		f.Add("א." + piece + ".a.")
	}
	f.Add("www.xn--bcher-kva.")
	f.Fuzz(checkNameWords)
}
