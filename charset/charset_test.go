package charset

import (
	"bytes"
	"slices"
	"strings"
	"testing"

	"timetable/api"
)

const replacement = "\ufffd"

// span is a range of bytes.
type span struct{ first, last byte }

// wellFormed lists the byte sequences that encode a character in UTF-8: shortest form, up to U+10FFFF, without surrogates.
var wellFormed = [][]span{
	{{0x00, 0x7f}},
	{{0xc2, 0xdf}, {0x80, 0xbf}},
	{{0xe0, 0xe0}, {0xa0, 0xbf}, {0x80, 0xbf}},
	{{0xe1, 0xec}, {0x80, 0xbf}, {0x80, 0xbf}},
	{{0xed, 0xed}, {0x80, 0x9f}, {0x80, 0xbf}},
	{{0xee, 0xef}, {0x80, 0xbf}, {0x80, 0xbf}},
	{{0xf0, 0xf0}, {0x90, 0xbf}, {0x80, 0xbf}, {0x80, 0xbf}},
	{{0xf1, 0xf3}, {0x80, 0xbf}, {0x80, 0xbf}, {0x80, 0xbf}},
	{{0xf4, 0xf4}, {0x80, 0x8f}, {0x80, 0xbf}, {0x80, 0xbf}},
}

// encoded returns how many bytes of the character with which b begins there are, 0 if b begins with none.
func encoded(b []byte) int {
	for _, form := range wellFormed {
		n := 0
		for n < len(form) && n < len(b) && form[n].first <= b[n] && b[n] <= form[n].last {
			n++
		}
		if n == len(form) {
			return n
		}
	}
	return 0
}

// expected decodes UTF-8 with the table, and without the functions of Go.
func expected(b []byte) (string, []api.Damage) {
	var text []byte
	var damage []api.Damage
	at := 0
	if bytes.HasPrefix(b, []byte{0xef, 0xbb, 0xbf}) {
		at = 3
	}
	for at < len(b) {
		n := encoded(b[at:])
		if n == 0 {
			damage = append(damage, api.Damage{At: at, Byte: int(b[at])})
			text = append(text, replacement...)
			at++
			continue
		}
		text = append(text, b[at:at+n]...)
		at += n
	}
	return string(text), damage
}

// eachSequence calls f for all sequences of up to three bytes around the borders in the table, and for longer ones with these beginnings.
func eachSequence(f func(b []byte)) {
	edges := []byte{0x00, 0x41, 0x7f, 0x80, 0x8f, 0x90, 0x9f, 0xa0, 0xbb, 0xbd, 0xbf, 0xc0, 0xc1, 0xc2, 0xdf, 0xe0, 0xe1, 0xec, 0xed, 0xee, 0xef, 0xf0, 0xf1, 0xf3, 0xf4, 0xf5, 0xff}
	f(nil)
	for _, a := range edges {
		f([]byte{a})
		for _, b := range edges {
			f([]byte{a, b})
			for _, c := range edges {
				f([]byte{a, b, c})
				for _, d := range edges {
					f([]byte{a, b, c, d})
				}
				f([]byte{a, b, c, 0xbf, a, b, c})
			}
		}
	}
}

func checkDecode(t *testing.T, b []byte, charset int, text string, damage []api.Damage) {
	t.Helper()
	gotText, gotDamage, e := Decode(b, charset)
	if gotText != text || !slices.Equal(gotDamage, damage) || e != api.OK {
		t.Errorf("Decode(% x, %d) = %q, %v, %d; want %q, %v", b, charset, gotText, gotDamage, e, text, damage)
	}
}

// P1.1, Ascii and Latin: every byte.
func TestDecodeSingleBytes(t *testing.T) {
	for i := range 256 {
		b := []byte{'<', byte(i), '>'}
		checkDecode(t, b, api.Latin, "<"+string(rune(i))+">", nil)
		if i <= 127 {
			checkDecode(t, b, api.Ascii, "<"+string(rune(i))+">", nil)
		} else {
			checkDecode(t, b, api.Ascii, "<"+replacement+">", []api.Damage{{At: 1, Byte: i}})
		}
	}
}

// P1.1, Ascii and Latin: several bytes in order; the mark of Utf8 means nothing there.
func TestDecodeSingleTexts(t *testing.T) {
	checkDecode(t, []byte("caf\xe9 \x80"), api.Ascii, "caf\ufffd \ufffd", []api.Damage{{At: 3, Byte: 0xe9}, {At: 5, Byte: 0x80}})
	checkDecode(t, []byte("caf\xe9"), api.Latin, "caf\u00e9", nil)
	checkDecode(t, []byte("\xef\xbb\xbfa"), api.Ascii, "\ufffd\ufffd\ufffda", []api.Damage{{At: 0, Byte: 0xef}, {At: 1, Byte: 0xbb}, {At: 2, Byte: 0xbf}})
	checkDecode(t, []byte("\xef\xbb\xbfa"), api.Latin, "\u00ef\u00bb\u00bfa", nil)
	checkDecode(t, []byte("\xc3\xa9"), api.Latin, "\u00c3\u00a9", nil)
}

// P1.1, Utf8.
func TestDecodeUtf8(t *testing.T) {
	for _, x := range []struct {
		b, text string
		damage  []api.Damage
	}{
		{"a\x00\x7f", "a\x00\x7f", nil},
		{"\xc3\xa9\xe2\x82\xac\xf0\x9f\x98\x80", "\u00e9\u20ac\U0001f600", nil},
		{"\xc2\x80\xdf\xbf\xe0\xa0\x80\xef\xbf\xbf", "\u0080\u07ff\u0800\uffff", nil},
		{"\xf0\x90\x80\x80\xf4\x8f\xbf\xbf", "\U00010000\U0010ffff", nil},
		{"\xed\x9f\xbf\xee\x80\x80", "\ud7ff\ue000", nil},
		{"\xef\xbf\xbd", replacement, nil},
		{"\xef\xbf\xbd\xff\xef\xbf\xbd", "\ufffd\ufffd\ufffd", []api.Damage{{At: 3, Byte: 0xff}}},
		{"caf\xe9", "caf\ufffd", []api.Damage{{At: 3, Byte: 0xe9}}},
		{"\xe9tude", "\ufffdtude", []api.Damage{{At: 0, Byte: 0xe9}}},
		{"\x80\xbf", "\ufffd\ufffd", []api.Damage{{At: 0, Byte: 0x80}, {At: 1, Byte: 0xbf}}},
		{"\xc1\xbf", "\ufffd\ufffd", []api.Damage{{At: 0, Byte: 0xc1}, {At: 1, Byte: 0xbf}}},
		{"\xe0\x9f\xbf", "\ufffd\ufffd\ufffd", []api.Damage{{At: 0, Byte: 0xe0}, {At: 1, Byte: 0x9f}, {At: 2, Byte: 0xbf}}},
		{"\xed\xa0\x80", "\ufffd\ufffd\ufffd", []api.Damage{{At: 0, Byte: 0xed}, {At: 1, Byte: 0xa0}, {At: 2, Byte: 0x80}}},
		{"\xf4\x90\x80\x80", "\ufffd\ufffd\ufffd\ufffd", []api.Damage{{At: 0, Byte: 0xf4}, {At: 1, Byte: 0x90}, {At: 2, Byte: 0x80}, {At: 3, Byte: 0x80}}},
		{"\xe2\x82", "\ufffd\ufffd", []api.Damage{{At: 0, Byte: 0xe2}, {At: 1, Byte: 0x82}}},
		{"\xe2\x82\xc3\xa9", "\ufffd\ufffd\u00e9", []api.Damage{{At: 0, Byte: 0xe2}, {At: 1, Byte: 0x82}}},
	} {
		checkDecode(t, []byte(x.b), api.Utf8, x.text, x.damage)
	}
}

// P1.1, Utf8: EF BB BF is left out at the very beginning only, and once; damage behind it stands where it stands in the bytes.
func TestDecodeMark(t *testing.T) {
	checkDecode(t, []byte("\xef\xbb\xbf"), api.Utf8, "", nil)
	checkDecode(t, []byte("\xef\xbb\xbfa"), api.Utf8, "a", nil)
	checkDecode(t, []byte("\xef\xbb\xbf\xef\xbb\xbfa"), api.Utf8, "\ufeffa", nil)
	checkDecode(t, []byte("a\xef\xbb\xbf"), api.Utf8, "a\ufeff", nil)
	checkDecode(t, []byte("\xef\xbb\xbfa\xff"), api.Utf8, "a\ufffd", []api.Damage{{At: 4, Byte: 0xff}})
	checkDecode(t, []byte("\xef\xbb"), api.Utf8, "\ufffd\ufffd", []api.Damage{{At: 0, Byte: 0xef}, {At: 1, Byte: 0xbb}})
	checkDecode(t, []byte("\xff\xef\xbb\xbf"), api.Utf8, "\ufffd\ufeff", []api.Damage{{At: 0, Byte: 0xff}})
}

// P1.1, Utf8: the borders of all forms, against the table.
func TestDecodeUtf8Table(t *testing.T) {
	eachSequence(func(b []byte) {
		text, damage := expected(b)
		checkDecode(t, b, api.Utf8, text, damage)
	})
}

// P1.1: no bytes, and R3.
func TestDecodeEmpty(t *testing.T) {
	for _, charset := range []int{api.Ascii, api.Latin, api.Utf8} {
		checkDecode(t, nil, charset, "", nil)
		checkDecode(t, []byte{}, charset, "", nil)
	}
}

// P1.1: the errors, their order, and no results with them.
func TestDecodeErrors(t *testing.T) {
	large := bytes.Repeat([]byte{0xff}, api.MaxFile+1)
	for _, x := range []struct {
		b       []byte
		charset int
		err     api.Errno
	}{
		{nil, 0, api.ErrCharset},
		{[]byte("a\xff"), -1, api.ErrCharset},
		{[]byte("a"), 4, api.ErrCharset},
		{[]byte("a"), -1 << 63, api.ErrCharset},
		{[]byte("a"), 1<<63 - 1, api.ErrCharset},
		{large, 4, api.ErrCharset},
		{large, api.Ascii, api.ErrSize},
		{large, api.Latin, api.ErrSize},
		{large, api.Utf8, api.ErrSize},
		{append([]byte("\xef\xbb\xbf"), large[:api.MaxFile-2]...), api.Utf8, api.ErrSize},
	} {
		if text, damage, e := Decode(x.b, x.charset); text != "" || len(damage) != 0 || e != x.err {
			t.Errorf("%d bytes in %d: %d bytes, %d damages, %d; want %d", len(x.b), x.charset, len(text), len(damage), e, x.err)
		}
	}
}

// P1.1: MaxFile bytes are not too many, however long their text is.
func TestDecodeLargest(t *testing.T) {
	b := bytes.Repeat([]byte{0xff}, api.MaxFile)
	for charset, want := range map[int]string{
		api.Ascii: strings.Repeat(replacement, api.MaxFile),
		api.Latin: strings.Repeat("\u00ff", api.MaxFile),
		api.Utf8:  strings.Repeat(replacement, api.MaxFile),
	} {
		text, damage, e := Decode(b, charset)
		if text != want || e != api.OK || charset == api.Latin && len(damage) != 0 || charset != api.Latin && len(damage) != api.MaxFile {
			t.Errorf("%d: %d bytes, %d damages, %d", charset, len(text), len(damage), e)
		}
	}
}

// R2: the bytes are not changed, and the text does not change with them.
func TestDecodeMemory(t *testing.T) {
	for _, charset := range []int{api.Ascii, api.Latin, api.Utf8} {
		b := []byte("\xef\xbb\xbfabc\xff")
		text, _, _ := Decode(b, charset)
		if string(b) != "\xef\xbb\xbfabc\xff" {
			t.Errorf("%d: the bytes are % x now", charset, b)
		}
		want := strings.Clone(text)
		clear(b)
		if text != want {
			t.Errorf("%d: the text is %q now", charset, text)
		}
	}
}

// P1.2: every character below U+0400, and some above.
func TestEncodeCharacters(t *testing.T) {
	chars := []rune{0x07ff, 0x0800, 0x20ac, 0xd7ff, 0xe000, 0xfeff, 0xfffd, 0xffff, 0x10000, 0x10ffff}
	for r := range rune(0x400) {
		chars = append(chars, r)
	}
	for _, r := range chars {
		s := "<" + string(r) + ">"
		single := string([]byte{'<', byte(r), '>'})
		checkEncode(t, s, api.Utf8, s, api.OK)
		if r <= 127 {
			checkEncode(t, s, api.Ascii, single, api.OK)
		} else {
			checkEncode(t, s, api.Ascii, "", api.ErrCharacter)
		}
		if r <= 255 {
			checkEncode(t, s, api.Latin, single, api.OK)
		} else {
			checkEncode(t, s, api.Latin, "", api.ErrCharacter)
		}
	}
}

func checkEncode(t *testing.T, s string, charset int, want string, err api.Errno) {
	t.Helper()
	if b, e := Encode(s, charset); string(b) != want || e != err {
		t.Errorf("Encode(%.40q, %d) = %d bytes, %.40q, %d; want %d bytes, %.40q, %d", s, charset, len(b), b, e, len(want), want, err)
	}
}

// P1.2: texts, and no text.
func TestEncodeTexts(t *testing.T) {
	checkEncode(t, "\u00e0 la carte\u00ff", api.Latin, "\xe0 la carte\xff", api.OK)
	checkEncode(t, "line\r\nline", api.Ascii, "line\r\nline", api.OK)
	checkEncode(t, "\ufeffa\ufffd\U0001f600", api.Utf8, "\xef\xbb\xbfa\xef\xbf\xbd\xf0\x9f\x98\x80", api.OK)
	for _, charset := range []int{api.Ascii, api.Latin, api.Utf8} {
		checkEncode(t, "", charset, "", api.OK)
	}
}

// P1.2: each error.
func TestEncodeErrors(t *testing.T) {
	for _, charset := range []int{0, 4, -1, -1 << 63, 1<<63 - 1} {
		checkEncode(t, "a", charset, "", api.ErrCharset)
		checkEncode(t, "", charset, "", api.ErrCharset)
	}
	for _, charset := range []int{api.Ascii, api.Latin, api.Utf8} {
		for _, s := range []string{"\xe9", "a\x80", "\xc0\x80", "\xed\xa0\x80", "\xf4\x90\x80\x80", "\xe2\x82"} {
			checkEncode(t, s, charset, "", api.ErrForm)
		}
	}
	checkEncode(t, "\u20ac", api.Latin, "", api.ErrCharacter)
	checkEncode(t, "abc\u00e9", api.Ascii, "", api.ErrCharacter)
}

// P1.2: the first of several errors.
func TestEncodeErrorOrder(t *testing.T) {
	large := strings.Repeat("a", api.MaxFile+1)
	checkEncode(t, large+"\u20ac\xff", 4, "", api.ErrCharset)
	checkEncode(t, large+"\u20ac\xff", api.Ascii, "", api.ErrForm)
	checkEncode(t, large+"\u20ac\xff", api.Latin, "", api.ErrForm)
	checkEncode(t, large+"\xff", api.Utf8, "", api.ErrForm)
	checkEncode(t, large+"\u20ac", api.Ascii, "", api.ErrCharacter)
	checkEncode(t, large+"\u20ac", api.Latin, "", api.ErrCharacter)
	checkEncode(t, large+"\u20ac", api.Utf8, "", api.ErrSize)
}

// P1.2: it is the bytes of the result that count.
func TestEncodeSize(t *testing.T) {
	full := strings.Repeat("a", api.MaxFile)
	for _, charset := range []int{api.Ascii, api.Latin, api.Utf8} {
		checkEncode(t, full, charset, full, api.OK)
		checkEncode(t, full+"a", charset, "", api.ErrSize)
	}
	wide := strings.Repeat("\u00e9", api.MaxFile)
	checkEncode(t, wide, api.Latin, strings.Repeat("\xe9", api.MaxFile), api.OK)
	checkEncode(t, wide+"\u00e9", api.Latin, "", api.ErrSize)
	checkEncode(t, wide[:api.MaxFile], api.Utf8, wide[:api.MaxFile], api.OK)
	checkEncode(t, wide[:api.MaxFile+2], api.Utf8, "", api.ErrSize)
}

// R2: two results share no memory.
func TestEncodeMemory(t *testing.T) {
	for _, charset := range []int{api.Ascii, api.Latin, api.Utf8} {
		s := "timetable"
		first, _ := Encode(s, charset)
		second, _ := Encode(s, charset)
		clear(first)
		if string(second) != "timetable" || s != "timetable" {
			t.Errorf("%d: %q, %q", charset, second, s)
		}
	}
}

// P1.3.
func TestDetect(t *testing.T) {
	for _, x := range []struct {
		b    string
		want int
	}{
		{"", api.Ascii},
		{"abc\x00\x7f", api.Ascii},
		{"\x80", api.Latin},
		{"caf\xe9", api.Latin},
		{"caf\xc3\xa9", api.Utf8},
		{"\xe9\xc3\xa9", api.Latin},
		{"\xc3\xa9\xe9", api.Latin},
		{"\xef\xbf\xbd", api.Utf8},
		{"\xed\xa0\x80", api.Latin},
		{"\xc0\x80", api.Latin},
		{"\xf4\x8f\xbf\xbf", api.Utf8},
		{"\xf4\x90\x80\x80", api.Latin},
		{"\xef\xbb\xbf", api.Utf8},
		{"\xef\xbb\xbfabc", api.Utf8},
		{"\xef\xbb\xbf\xff", api.Utf8},
		{"a\xef\xbb\xbf\xff", api.Latin},
		{"\xef\xbb", api.Latin},
	} {
		if got := Detect([]byte(x.b)); got != x.want {
			t.Errorf("Detect(% x) = %d; want %d", x.b, got, x.want)
		}
	}
	if got := Detect(nil); got != api.Ascii {
		t.Errorf("Detect(nil) = %d", got)
	}
}

// P1.3: more than MaxFile bytes have an encoding, too; the last byte may decide.
func TestDetectLarge(t *testing.T) {
	b := bytes.Repeat([]byte("a"), api.MaxFile+1)
	for last, want := range map[byte]int{'a': api.Ascii, 0xe9: api.Latin} {
		b[api.MaxFile] = last
		if got := Detect(b); got != want {
			t.Errorf("last byte %x: %d; want %d", last, got, want)
		}
	}
}

// P1.3: the borders of all forms, against the table.
func TestDetectTable(t *testing.T) {
	eachSequence(func(b []byte) {
		_, damage := expected(b)
		want := api.Latin
		switch {
		case bytes.HasPrefix(b, []byte{0xef, 0xbb, 0xbf}):
			want = api.Utf8
		case !slices.ContainsFunc(b, func(c byte) bool { return c > 127 }):
			want = api.Ascii
		case len(damage) == 0:
			want = api.Utf8
		}
		if got := Detect(b); got != want {
			t.Errorf("Detect(% x) = %d; want %d", b, got, want)
		}
	})
}

// Consequences: Decode of Encode is the text, unless it begins with U+FEFF and is encoded in Utf8.
func TestDecodeOfEncode(t *testing.T) {
	texts := []string{"", "abc", "caf\u00e9", "\u00ff\u0080", "\u20ac", "\ufffd", "a\ufeff", "\ufeff", "\ufeffa", "\ufeff\ufeff", "\U0010ffff", strings.Repeat("\u00e9", api.MaxFile/2)}
	for _, s := range texts {
		for _, charset := range []int{api.Ascii, api.Latin, api.Utf8} {
			b, e := Encode(s, charset)
			if e == api.ErrCharacter {
				continue
			}
			want := s
			if charset == api.Utf8 {
				want = strings.TrimPrefix(s, "\ufeff")
			}
			checkDecode(t, b, charset, want, nil)
		}
	}
}

// Consequences: Decode with the encoding of Detect has no damage, unless the bytes begin with EF BB BF.
func TestDecodeOfDetect(t *testing.T) {
	eachSequence(func(b []byte) {
		if bytes.HasPrefix(b, []byte{0xef, 0xbb, 0xbf}) {
			return
		}
		if _, damage, e := Decode(b, Detect(b)); len(damage) != 0 || e != api.OK {
			t.Errorf("% x: %v, %d", b, damage, e)
		}
	})
}
