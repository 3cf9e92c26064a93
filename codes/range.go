package codes

import (
	"strconv"
	"strings"
)

// numbered is a code that ends with a digit: what stands before its last number, that number, and how many digits it has.
type numbered struct {
	prefix        string
	number, width int
}

// divide takes a code apart; false if it does not end with a digit.
func divide(code string) (numbered, bool) {
	prefix := strings.TrimRight(code, digits)
	last := code[len(prefix):]
	number, err := strconv.Atoi(last) // fails without digits only: MaxCode of them fit into an int
	return numbered{prefix, number, len(last)}, err == nil
}

// after returns the code whose number is greater by n, written with the width of this one.
func (c numbered) after(n int) string {
	number := strconv.Itoa(c.number + n)
	zeros := max(0, c.width-len(number))
	return c.prefix + strings.Repeat("0", zeros) + number
}

// rangeLength returns how many codes a range from first to last has, 0 if there is no such range.
func rangeLength(first, last string) int {
	a, okA := divide(first)
	b, okB := divide(last)
	n := b.number - a.number
	if !okA || !okB || n < 0 || a.after(n) != last { // if these are equal, so are the prefixes
		return 0
	}
	return n + 1
}

// expand returns the first n codes of a range, or a single code.
func expand(first string, n int) []string {
	l := []string{strings.Clone(first)} // a part of the text would keep the whole of it in memory
	a, _ := divide(first)
	for i := 1; i < n; i++ {
		l = append(l, a.after(i))
	}
	return l
}

// rangeAhead returns with how many codes a list, which is not empty, begins that follow each other as in a range.
func rangeAhead(l []string) int {
	n := 1
	first, ok := divide(l[0])
	for ok && n < len(l) && l[n] == first.after(n) {
		n++
	}
	return n
}
