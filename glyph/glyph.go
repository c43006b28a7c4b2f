// Package glyph is layer 1: bytes, as signs. See shared/doc/01-glyph.md.
package glyph

import (
	"unicode/utf8"

	"typebar/api"
)

// The greatest sign, and the numbers ahead of it that are none.
const (
	greatest  = 1114111
	firstNone = 55296
	lastNone  = 57343
)

// Is tells whether r is a sign (P1.1).
func Is(r rune) bool {
	return r >= 0 && r <= greatest && (r < firstNone || r > lastNone)
}

// Put tells the bytes of the sign r (P1.1).
func Put(r rune) (string, api.Errno) {
	if !Is(r) {
		return "", api.ErrArg
	}
	return string(r), api.OK
}

// Next tells the sign whose bytes s begins with, and how many these are (P1.2).
func Next(s string) (rune, int, api.Errno) {
	if s == "" {
		return 0, 0, api.ErrEmpty
	}
	// Not full is a beginning alone: a byte that fits nowhere makes it full, as Bad.
	if !utf8.FullRuneInString(s) {
		return 0, 0, api.ErrMore
	}
	r, n := first(s)
	return r, n, api.OK
}

// first tells what a range has first of s, which is not empty, and how many bytes that takes.
func first(s string) (rune, int) {
	head := rune(0)
	for i, r := range s {
		if i > 0 {
			return head, i
		}
		head = r
	}
	return head, len(s)
}

// Decode tells the signs of s (P1.3).
func Decode(s string) []rune {
	var l []rune
	// A range takes what is no sign, or not whole, as Bad, byte by byte: just what is asked for.
	for _, r := range s {
		l = append(l, r)
	}
	return l
}

// Encode tells the bytes of all signs of l (P1.3).
func Encode(l []rune) string {
	// The conversion has the bytes of Bad for what is no sign: just what is asked for.
	return string(l)
}
