// Package puny: labels as ASCII: see DOC.md, P2.
package puny

import (
	"unicode/utf8"

	"manor/api"
	"manor/signs"
)

// maxBytes is how long a text may be that is handed in, for either way.
const maxBytes = 1000

// separator stands behind the ASCII signs, if there are any.
const separator = '-'

// Encode writes a text in its ASCII form.
func Encode(text string) (string, api.Errno) {
	if !utf8.ValidString(text) {
		return "", api.ErrUTF8
	}
	if len(text) > maxBytes {
		return "", api.ErrLong
	}
	return newEncoder(text).encode(), api.OK
}

// Decode reads an ASCII form.
func Decode(text string) (string, api.Errno) {
	if len(text) > maxBytes || !signs.IsASCII(text) {
		return "", api.ErrPuny
	}
	plain, numbers, ok := split(text)
	if !ok {
		return "", api.ErrPuny
	}
	decoded, ok := newDecoder(plain, numbers).decode()
	if !ok {
		return "", api.ErrPuny
	}
	return decoded, api.OK
}
