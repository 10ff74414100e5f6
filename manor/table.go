package manor

import "sort"

type kind uint8

const (
	kindNone kind = iota
	kindLetter
	kindDigit
	kindHyphen
	kindMark
	kindConditional
)

// side is the way in which a sign runs.
type side uint8

const (
	sideNone side = iota
	sideL
	sideR
	sideAL
	sideEN
	sideAN
	sideES
	sideNSM
)

type script uint8

const (
	scriptNone script = iota
	scriptLatin
	scriptGreek
	scriptHebrew
	scriptArabic
	scriptDevanagari
	scriptHiragana
	scriptKatakana
	scriptHan
)

type joining uint8

const (
	joiningNone joining = iota
	joiningR
	joiningD
	joiningT
)

// row is a run of signs that have everything in common.
type row struct {
	first, last rune
	kind        kind
	side        side
	script      script
	joining     joining
}

// table has the signs that may be in a label, by size.
var table = [...]row{
	{'-', '-', kindHyphen, sideES, scriptNone, joiningNone},
	{'0', '9', kindDigit, sideEN, scriptNone, joiningNone},
	{'a', 'z', kindLetter, sideL, scriptLatin, joiningNone},
	{0x00B7, 0x00B7, kindConditional, sideNone, scriptNone, joiningNone},
	{0x00DF, 0x00F6, kindLetter, sideL, scriptLatin, joiningNone},
	{0x00F8, 0x00FF, kindLetter, sideL, scriptLatin, joiningNone},
	{0x0300, 0x033F, kindMark, sideNSM, scriptNone, joiningT},
	{0x0342, 0x0342, kindMark, sideNSM, scriptNone, joiningT},
	{0x0345, 0x034E, kindMark, sideNSM, scriptNone, joiningT},
	{0x0350, 0x036F, kindMark, sideNSM, scriptNone, joiningT},
	{0x0375, 0x0375, kindConditional, sideNone, scriptGreek, joiningNone},
	{0x03AC, 0x03CE, kindLetter, sideL, scriptGreek, joiningNone},
	{0x05D0, 0x05EA, kindLetter, sideR, scriptHebrew, joiningNone},
	{0x05F3, 0x05F4, kindConditional, sideR, scriptHebrew, joiningNone},
	{0x0627, 0x0627, kindLetter, sideAL, scriptArabic, joiningR},
	{0x0628, 0x0628, kindLetter, sideAL, scriptArabic, joiningD},
	{0x0629, 0x0629, kindLetter, sideAL, scriptArabic, joiningR},
	{0x062A, 0x062E, kindLetter, sideAL, scriptArabic, joiningD},
	{0x062F, 0x0632, kindLetter, sideAL, scriptArabic, joiningR},
	{0x0633, 0x063A, kindLetter, sideAL, scriptArabic, joiningD},
	{0x0641, 0x0647, kindLetter, sideAL, scriptArabic, joiningD},
	{0x0648, 0x0648, kindLetter, sideAL, scriptArabic, joiningR},
	{0x0649, 0x064A, kindLetter, sideAL, scriptArabic, joiningD},
	{0x064B, 0x0652, kindMark, sideNSM, scriptNone, joiningT},
	{0x0660, 0x0669, kindConditional, sideAN, scriptNone, joiningNone},
	{0x06F0, 0x06F9, kindConditional, sideEN, scriptNone, joiningNone},
	{0x0905, 0x0939, kindLetter, sideL, scriptDevanagari, joiningNone},
	{0x094D, 0x094D, kindMark, sideNSM, scriptNone, joiningT},
	{0x200C, 0x200D, kindConditional, sideNone, scriptNone, joiningNone},
	{0x3041, 0x3096, kindLetter, sideL, scriptHiragana, joiningNone},
	{0x30A1, 0x30FA, kindLetter, sideL, scriptKatakana, joiningNone},
	{0x30FB, 0x30FB, kindConditional, sideNone, scriptNone, joiningNone},
	{0x4E00, 0x9FFF, kindLetter, sideL, scriptHan, joiningNone},
}

// rowOf is the row of a sign. That of all others, and of what is no sign, is
// empty: of no kind, no side, no script and no joining.
func rowOf(sign int) row {
	i := sort.Search(len(table), func(i int) bool { return sign <= int(table[i].last) })
	if i == len(table) || sign < int(table[i].first) {
		return row{}
	}
	return table[i]
}
