// Package manor: may this name be given away? See DOC.md.
package manor

import "manor/api"

// Kind tells a sign's kind (P3).
func Kind(sign int) int { return kindOf(sign) }

// Label looks through a label (P4).
func Label(text string) (string, string, api.Errno) { return "", "", api.OK }

// Name looks through a name (P5).
func Name(text string) (string, string, int, api.Errno) { return "", "", 0, api.OK }
