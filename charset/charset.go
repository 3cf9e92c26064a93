// Package charset is layer 1: bytes as text, in several encodings and with damage. See shared/doc/01-charset.md.
package charset

import (
	"bytes"
	"strings"
	"unicode/utf8"

	"timetable/api"
)

// The greatest characters of the encodings that have one byte for each character.
const (
	greatestAscii = 0x7f
	greatestLatin = 0xff
)

// mark is the byte order mark: EF BB BF in UTF-8, and nothing else is.
const mark = '\ufeff'

// Decode returns the text of bytes, and the bytes that could not be decoded.
func Decode(b []byte, charset int) (text string, damage []api.Damage, e api.Errno) {
	greatest, known := greatestOf(charset)
	switch {
	case !known:
		return "", nil, api.ErrCharset
	case len(b) > api.MaxFile:
		return "", nil, api.ErrSize
	case charset == api.Utf8:
		text, damage = decodeUtf8(string(b))
	default:
		text, damage = decodeSingle(b, above(greatest))
	}
	return text, damage, api.OK
}

// Encode returns the bytes of a text.
func Encode(s string, charset int) ([]byte, api.Errno) {
	greatest, known := greatestOf(charset)
	switch {
	case !known:
		return nil, api.ErrCharset
	case !utf8.ValidString(s):
		return nil, api.ErrForm
	case strings.IndexFunc(s, above(greatest)) >= 0:
		return nil, api.ErrCharacter
	}
	b := []byte(s)
	if charset != api.Utf8 {
		b = encodeSingle(s)
	}
	if len(b) > api.MaxFile {
		return nil, api.ErrSize
	}
	return b, api.OK
}

// Detect returns the encoding that bytes seem to have.
func Detect(b []byte) int {
	first, _ := utf8.DecodeRune(b)
	switch {
	case first == mark:
		return api.Utf8
	case bytes.IndexFunc(b, above(greatestAscii)) < 0: // a byte that is no UTF-8 counts as U+FFFD here, which is above as well
		return api.Ascii
	case utf8.Valid(b):
		return api.Utf8
	}
	return api.Latin
}

// greatestOf returns the greatest character of an encoding; false if there is no such encoding.
func greatestOf(charset int) (rune, bool) {
	switch charset {
	case api.Ascii:
		return greatestAscii, true
	case api.Latin:
		return greatestLatin, true
	case api.Utf8:
		return utf8.MaxRune, true
	}
	return 0, false
}

// above returns a function that finds the characters that an encoding does not have.
func above(greatest rune) func(r rune) bool {
	return func(r rune) bool { return r > greatest }
}

// decodeSingle decodes an encoding with one byte for each character: that of the byte's value, unless it is beyond the encoding.
func decodeSingle(b []byte, beyond func(r rune) bool) (string, []api.Damage) {
	var text strings.Builder
	var damage []api.Damage
	for at, c := range b {
		r := rune(c)
		if beyond(r) {
			damage = append(damage, api.Damage{At: at, Byte: int(c)})
			r = utf8.RuneError
		}
		text.WriteRune(r)
	}
	return text.String(), damage
}

func decodeUtf8(s string) (string, []api.Damage) {
	var text strings.Builder
	var damage []api.Damage
	for at, r := range s {
		if at == 0 && r == mark {
			continue
		}
		_, size := utf8.DecodeRuneInString(s[at:])
		if r == utf8.RuneError && size == 1 { // the encoding of U+FFFD itself has three bytes
			damage = append(damage, api.Damage{At: at, Byte: int(s[at])})
		}
		text.WriteRune(r)
	}
	return text.String(), damage
}

// encodeSingle needs characters up to 255; a byte for each would lose the others.
func encodeSingle(s string) []byte {
	b := make([]byte, 0, utf8.RuneCountInString(s))
	for _, r := range s {
		b = append(b, byte(r))
	}
	return b
}
