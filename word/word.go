// Package word: one word of 64 bits: see DOC.md, chapter 1.
package word

import "casket/api"

// The parts of a word: 13 set bits mark it as tagged, 3 bits of tag and 48 of load follow.
const (
	loadBits        = 48
	loadMask uint64 = 1<<loadBits - 1
	tagMask  uint64 = 7
	marker   uint64 = 0x1fff << 51
)

// Tags of tagged words; the ones above are of no class.
const (
	tagPlain uint64 = iota
	tagInt
	tagText
	tagHandle
)

// Loads of the words that have no load of their own kind.
const (
	loadNil uint64 = iota
	loadFalse
	loadTrue
)

// A string's load: its length stands above room for five bytes.
const (
	byteBits  = 8
	maxShort  = 5
	bytesBits = byteBits * maxShort

	bytesMask uint64 = 1<<bytesBits - 1
)

const (
	minSmall int64 = -1 << (loadBits - 1)
	maxSmall int64 = 1<<(loadBits-1) - 1

	signBit  uint64 = 1 << 63
	infinity uint64 = 0x7ff << 52
)

func isNaN(bits uint64) bool { return bits&^signBit > infinity }

func isTagged(w uint64) bool { return w&marker == marker }

func tagOf(w uint64) uint64 { return w >> loadBits & tagMask }

func loadOf(w uint64) uint64 { return w & loadMask }

func join(tag, load uint64) uint64 { return marker | tag<<loadBits | load }

// Class is what a word is.
func Class(w uint64) int {
	if !isNaN(w) || w == api.Canon {
		return api.ClassDouble
	}
	if !isTagged(w) {
		return api.ClassStray
	}
	switch tagOf(w) {
	case tagPlain:
		return classOfPlain(loadOf(w))
	case tagInt:
		return api.ClassInt
	case tagText:
		return classOfText(loadOf(w))
	case tagHandle:
		return api.ClassHandle
	}
	return api.ClassStray
}

func classOfPlain(load uint64) int {
	switch load {
	case loadNil:
		return api.ClassNil
	case loadFalse, loadTrue:
		return api.ClassBool
	}
	return api.ClassStray
}

// classOfText refuses bytes behind the string's end, so that a string has one word alone.
func classOfText(load uint64) int {
	n, room := splitText(load)
	if n > maxShort || room>>(byteBits*n) != 0 {
		return api.ClassStray
	}
	return api.ClassText
}

func splitText(load uint64) (n, room uint64) {
	return load >> bytesBits, load & bytesMask
}

// FromFloat is the word of a double. Every NaN becomes the canonical one, since the others may be tagged words.
func FromFloat(bits uint64) uint64 {
	if isNaN(bits) {
		return api.Canon
	}
	return bits
}

// FromInt is the word of a small number; false, if it is not small.
func FromInt(i int64) (uint64, bool) {
	if i < minSmall || i > maxSmall {
		return 0, false
	}
	return join(tagInt, loadOf(uint64(i))), true
}

// ToInt leads back from FromInt.
func ToInt(w uint64) (int64, bool) {
	if Class(w) != api.ClassInt {
		return 0, false
	}
	// The shift to the left drops marker and tag, the one back carries the load's sign.
	return int64(w<<(64-loadBits)) >> (64 - loadBits), true
}

// FromNil is nil's word.
func FromNil() uint64 { return join(tagPlain, loadNil) }

// FromBool is the word of a truth.
func FromBool(b bool) uint64 {
	if b {
		return join(tagPlain, loadTrue)
	}
	return join(tagPlain, loadFalse)
}

// ToBool leads back from FromBool.
func ToBool(w uint64) (bool, bool) {
	if Class(w) != api.ClassBool {
		return false, false
	}
	return loadOf(w) == loadTrue, true
}

// FromText is the word of a string of at most five bytes; false, if it is longer.
func FromText(s string) (uint64, bool) {
	if len(s) > maxShort {
		return 0, false
	}
	load := uint64(len(s)) << bytesBits
	for i := range len(s) {
		load |= uint64(s[i]) << (byteBits * i)
	}
	return join(tagText, load), true
}

// ToText leads back from FromText.
func ToText(w uint64) (string, bool) {
	if Class(w) != api.ClassText {
		return "", false
	}
	n, room := splitText(loadOf(w))
	var b [maxShort]byte
	for i := range b {
		b[i] = byte(room >> (byteBits * i))
	}
	return string(b[:n]), true
}

// FromHandle is the word with the handle h; false, if h has more than 48 bits.
func FromHandle(h uint64) (uint64, bool) {
	if h > loadMask {
		return 0, false
	}
	return join(tagHandle, h), true
}

// ToHandle leads back from FromHandle.
func ToHandle(w uint64) (uint64, bool) {
	if Class(w) != api.ClassHandle {
		return 0, false
	}
	return loadOf(w), true
}
