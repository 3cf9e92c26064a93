// Package numerals reads and writes numbers in decimal digits, and spans of them, for the layers whose texts contain some.
package numerals

import (
	"strconv"
	"strings"
)

const (
	dash = "-" // between the first and the last number of a span
	zero = "0"
)

// Read reads a number with at most so many digits, the first of which is not 0.
func Read(s string, digits int) (int, bool) {
	if strings.HasPrefix(s, zero) {
		return 0, false
	}
	return ReadPadded(s, digits)
}

// ReadPadded reads a number with at most so many digits, among them zeros in front.
func ReadPadded(s string, digits int) (int, bool) {
	// Signs, which strconv would take, come before '0'.
	if s == "" || len(s) > digits || s[0] < '0' {
		return 0, false
	}
	number, err := strconv.Atoi(s)
	if err != nil {
		return 0, false
	}
	return number, true
}

// ReadSpan reads two numbers with - between, or one that is both the first and the last one. It does not compare them.
func ReadSpan(s string, digits int) (from, to int, ok bool) {
	first, last, isPair := strings.Cut(s, dash)
	if !isPair {
		last = first
	}
	from, okFrom := Read(first, digits)
	to, okTo := Read(last, digits)
	if !okFrom || !okTo {
		return 0, 0, false
	}
	return from, to, true
}

// WriteSpan returns the text of a span: one number if both are equal.
func WriteSpan(from, to int) string {
	if from == to {
		return strconv.Itoa(from)
	}
	return strconv.Itoa(from) + dash + strconv.Itoa(to)
}
