// Package quote: strings as a source spells them, read as chapter 11 says and written as chapter 12 does: see DOC.md.
package quote

import "strings"

const hexDigits = "0123456789abcdef"

// Read is the string that a text begins with, and how many bytes it is spelt with, from `"` to `"`; false: the text begins with none.
func Read(text string) (s string, size int, ok bool) {
	if !strings.HasPrefix(text, `"`) {
		return "", 0, false
	}
	var read []byte
	size = 1
	for size < len(text) && text[size] != '"' {
		b, n := spelt(text[size:])
		if n == 0 {
			return "", 0, false
		}
		read = append(read, b)
		size += n
	}
	if size == len(text) {
		return "", 0, false
	}
	return string(read), size + 1, true
}

// spelt is the next byte of a string, and how many bytes it is spelt with: 0, if it is none.
func spelt(rest string) (byte, int) {
	if rest[0] < 32 || rest[0] > 126 {
		return 0, 0
	}
	if rest[0] != '\\' {
		return rest[0], 1
	}
	if len(rest) < 2 {
		return 0, 0
	}
	switch rest[1] {
	case '\\', '"':
		return rest[1], 2
	case 'n':
		return '\n', 2
	case 'x':
		return hexByte(rest)
	}
	return 0, 0
}

// hexByte is handed `\x` and what stands behind it.
func hexByte(rest string) (byte, int) {
	if len(rest) < 4 {
		return 0, 0
	}
	high, low := strings.IndexByte(hexDigits, rest[2]), strings.IndexByte(hexDigits, rest[3])
	if high < 0 || low < 0 {
		return 0, 0
	}
	return byte(high<<4 | low), 4
}

// Write is the one spelling of a string that is printed.
func Write(s string) string {
	var text strings.Builder
	text.WriteByte('"')
	for i := range len(s) {
		switch b := s[i]; {
		case b == '"' || b == '\\':
			text.WriteByte('\\')
			text.WriteByte(b)
		case b == '\n':
			text.WriteString(`\n`)
		case b < 32 || b > 126:
			text.WriteString(`\x`)
			text.WriteByte(hexDigits[b>>4])
			text.WriteByte(hexDigits[b&15])
		default:
			text.WriteByte(b)
		}
	}
	text.WriteByte('"')
	return text.String()
}
