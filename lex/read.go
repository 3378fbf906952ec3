package lex

import (
	"strings"

	"casket/api"
	"casket/numtext"
	"casket/quote"
)

// nothing is the Kind of what stands for no token.
const nothing = 0

const hexDigits = "0123456789abcdef"

// marks has those that begin with another one ahead of it: the longest is taken.
var marks = [...]string{
	"==", "!=", "<=", ">=", "<<", ">>", "//", "..",
	"+", "-", "*", "/", "%", "&", "|", "^", "~", "<", ">", "=", "(", ")", "{", "}", "[", "]", ",", ";", ":",
}

// piece is what begins at a byte, with as many bytes as it has: none, if it is of another sort than was asked for.
type piece struct {
	token api.Token
	size  int
	code  api.Errno
}

// A reader is handed one byte or more: the one that the piece begins at, and all behind it.
type reader func(rest string) piece

// readers has doubles ahead of whole numbers: both begin with a digit.
func readers() [6]reader {
	return [...]reader{gap, name, double, whole, quoted, mark}
}

func gap(rest string) piece {
	if rest[0] == '#' {
		return piece{size: run(rest, inLine)}
	}
	return piece{size: run(rest, isBlank)}
}

func name(rest string) piece {
	size := run(rest, inName)
	if size == 0 || isDigit(rest[0]) {
		return piece{}
	}
	if size > api.MaxName {
		return piece{size: size, code: api.ErrName}
	}
	// A copy: who holds a name does not hold all of its source.
	return piece{token: named(strings.Clone(rest[:size])), size: size}
}

func named(text string) api.Token {
	switch text {
	case "inf", "nan":
		bits, _ := numtext.ParseFloat(text)
		return api.Token{Kind: api.TokFloat, Bits: bits}
	case "fn", "let", "if", "else", "while", "for", "in", "break", "continue", "return", "out", "and", "or", "not", "true", "false", "nil":
		return api.Token{Kind: api.TokWord, Text: text}
	}
	return api.Token{Kind: api.TokName, Text: text}
}

func double(rest string) piece {
	if !strings.HasPrefix(rest, "0x") {
		return piece{}
	}
	size := len("0x")
	size += run(rest[size:], hexOrPoint)
	size += powerSize(rest[size:])
	bits, e := numtext.ParseFloat(rest[:size])
	if e != api.OK {
		return piece{size: size, code: api.ErrNumber}
	}
	return piece{token: api.Token{Kind: api.TokFloat, Bits: bits}, size: size}
}

// powerSize takes what may be cut off behind each part: whether that is a power, is asked of the double as a whole.
func powerSize(rest string) int {
	if !strings.HasPrefix(rest, "p") {
		return 0
	}
	size := len("p")
	if strings.HasPrefix(rest[size:], "+") || strings.HasPrefix(rest[size:], "-") {
		size++
	}
	return size + run(rest[size:], isDigit)
}

func whole(rest string) piece {
	size := run(rest, isDigit)
	if size == 0 {
		return piece{}
	}
	i, e := numtext.ParseInt(rest[:size])
	if e != api.OK {
		return piece{size: size, code: api.ErrNumber}
	}
	return piece{token: api.Token{Kind: api.TokInt, Int: i}, size: size}
}

func quoted(rest string) piece {
	if rest[0] != '"' {
		return piece{}
	}
	text, size, ok := quote.Read(rest)
	if !ok {
		return piece{size: 1, code: api.ErrString}
	}
	return piece{token: api.Token{Kind: api.TokText, Text: text}, size: size}
}

func mark(rest string) piece {
	for _, text := range marks {
		if strings.HasPrefix(rest, text) {
			return piece{token: api.Token{Kind: api.TokMark, Text: text}, size: len(text)}
		}
	}
	return piece{}
}

// run is how many bytes stand in front of the first one that is none of these.
func run(rest string, these func(byte) bool) int {
	for i := range len(rest) {
		if !these(rest[i]) {
			return i
		}
	}
	return len(rest)
}

func isBlank(b byte) bool { return b == ' ' || b == '\t' || b == '\n' }

func isDigit(b byte) bool { return '0' <= b && b <= '9' }

func inLine(b byte) bool { return b != '\n' }

func inName(b byte) bool { return 'a' <= b && b <= 'z' || isDigit(b) || b == '_' }

func hexOrPoint(b byte) bool { return b == '.' || strings.IndexByte(hexDigits, b) >= 0 }
