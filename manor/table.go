package manor

// The kinds of signs.
const (
	kindNone = iota
	kindLetter
	kindDigit
	kindHyphen
	kindMark
	kindConditional
)

// row is a run of signs that have the same kind.
type row struct {
	first, last int
	kind        int
}

// table has the signs that may be in a label; all others are of no kind.
var table = [...]row{
	{'-', '-', kindHyphen},
	{'0', '9', kindDigit},
	{'a', 'z', kindLetter},
	{0x00B7, 0x00B7, kindConditional},
	{0x00DF, 0x00F6, kindLetter},
	{0x00F8, 0x00FF, kindLetter},
	{0x0300, 0x033F, kindMark},
	{0x0342, 0x0342, kindMark},
	{0x0345, 0x034E, kindMark},
	{0x0350, 0x036F, kindMark},
	{0x0375, 0x0375, kindConditional},
	{0x03AC, 0x03CE, kindLetter},
	{0x05D0, 0x05EA, kindLetter},
	{0x05F3, 0x05F4, kindConditional},
	{0x0627, 0x063A, kindLetter},
	{0x0641, 0x064A, kindLetter},
	{0x064B, 0x0652, kindMark},
	{0x0660, 0x0669, kindConditional},
	{0x06F0, 0x06F9, kindConditional},
	{0x0905, 0x0939, kindLetter},
	{0x094D, 0x094D, kindMark},
	{0x200C, 0x200D, kindConditional},
	{0x3041, 0x3096, kindLetter},
	{0x30A1, 0x30FA, kindLetter},
	{0x30FB, 0x30FB, kindConditional},
	{0x4E00, 0x9FFF, kindLetter},
}

func kindOf(sign int) int {
	for _, r := range table {
		if r.first <= sign && sign <= r.last {
			return r.kind
		}
	}
	return kindNone
}
