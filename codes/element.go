package codes

import (
	"cmp"
	"strings"
)

// cutElement divides a string, which is not empty, behind its first element.
func cutElement(s string) (element, rest string) {
	ended := endOf(s[0])
	for i := range len(s) {
		if ended(s[i]) {
			return s[:i], s[i:]
		}
	}
	return s, ""
}

// endOf returns a function that reports whether the element that begins with a byte has ended before another one.
func endOf(first byte) func(c byte) bool {
	number := isDigit(first)
	return func(c byte) bool { return isDigit(c) != number }
}

// compareElements compares two elements: a number comes before another element.
func compareElements(a, b string) int {
	switch numberA, numberB := isDigit(a[0]), isDigit(b[0]); {
	case numberA && numberB:
		return compareNumbers(a, b)
	case numberA:
		return -1
	case numberB:
		return 1
	}
	return strings.Compare(a, b)
}

// compareNumbers compares numbers by their digits, because they can be too long for an integer type.
func compareNumbers(a, b string) int {
	a, b = strings.TrimLeft(a, "0"), strings.TrimLeft(b, "0")
	return cmp.Or(cmp.Compare(len(a), len(b)), strings.Compare(a, b))
}
