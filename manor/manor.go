// Package manor: may this name be given away? See DOC.md.
package manor

import (
	"strings"

	"manor/api"
)

// Kind tells a sign's kind (P3).
func Kind(sign int) int { return int(rowOf(sign).kind) }

// Label looks through a label (P4).
func Label(text string) (string, string, api.Errno) {
	l, form, errno := goodLabel(text)
	if errno != api.OK {
		return "", "", errno
	}
	return l.String(), form, api.OK
}

// Name looks through a name (P5).
func Name(text string) (string, string, int, api.Errno) {
	body, ended := strings.CutSuffix(text, dot)
	n, number, errno := goodName(strings.Split(body, dot))
	if errno != api.OK {
		return "", "", number, errno
	}
	end := ""
	if ended {
		end = dot
	}
	return n.text() + end, n.form() + end, 0, api.OK
}
