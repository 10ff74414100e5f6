package manor

import (
	"strings"
	"unicode/utf8"

	"manor/api"
	"manor/puny"
	"manor/signs"
)

// prefix stands ahead of puny's form in the ASCII form of a label.
const prefix = "xn--"

// plainText is the text that is looked through for a label: the label itself,
// but lowered or decoded if it is ASCII.
func plainText(text string) (string, api.Errno) {
	if !utf8.ValidString(text) {
		return "", api.ErrUTF8
	}
	if text == "" {
		return "", api.ErrEmpty
	}
	if !signs.IsASCII(text) {
		return text, api.OK
	}
	lowered := strings.ToLower(text)
	if form, found := strings.CutPrefix(lowered, prefix); found {
		return decoded(form)
	}
	return lowered, api.OK
}

// decoded refuses a text of ASCII signs alone: its form has no prefix.
func decoded(form string) (string, api.Errno) {
	text, errno := puny.Decode(form)
	if errno != api.OK || signs.IsASCII(text) {
		return "", api.ErrPuny
	}
	return text, api.OK
}

// form is the ASCII form of a label without fault. A text that is too long for
// puny would have too long a form as well, so both are the same error.
func (l *label) form() (string, api.Errno) {
	form := l.String()
	if !signs.IsASCII(form) {
		encoded, errno := puny.Encode(form)
		if errno != api.OK {
			return "", api.ErrLong
		}
		form = prefix + encoded
	}
	if len(form) > api.MaxLabel {
		return "", api.ErrLong
	}
	return form, api.OK
}
