// Package num is layer 1: numbers in fields, as digits to the base of 8 or as bytes. See shared/doc/01-num.md.
package num

const (
	leastWidth = 2
	mostWidth  = 20
	mostDigits = 20

	// mark stands ahead of a number's bytes; no digit is it, so the first byte of a field tells which of both forms it has.
	mark = 128
)

// Put are the bytes of n in a field of that width: digits and a byte 0 if they go in, else the mark and n's own bytes.
func Put(n, wide int) ([]byte, bool) {
	if n < 0 || !isWidth(wide) {
		return nil, false
	}
	if digits, ok := Octal(n, wide-1); ok {
		return append([]byte(digits), 0), true
	}
	return putBytes(n, wide)
}

// Get is the number whose field b is, as Put makes it for b's length.
func Get(b []byte) (int, bool) {
	if !isWidth(len(b)) {
		return 0, false
	}
	n := guess(b)
	// A number may be written in several ways, but only one of them is Put's: leading noughts, strange digits and what has wrapped around all fail here.
	same, ok := Put(n, len(b))
	if !ok || string(same) != string(b) {
		return 0, false
	}
	return n, true
}

// Octal are the digits of n to the base of 8, as many as asked for.
func Octal(n, digits int) (string, bool) {
	if n < 0 || digits < 1 || digits > mostDigits {
		return "", false
	}
	text := make([]byte, digits)
	free := digits
	gather := func(digit int) {
		free--
		text[free] = byte('0' + digit)
	}
	rest := n
	for range digits {
		gather(rest % 8)
		rest /= 8
	}
	if rest != 0 {
		return "", false
	}
	return string(text), true
}

// Plain tells whether n's digits go into a field of that width, with a byte 0 behind.
func Plain(n, wide int) bool {
	if !isWidth(wide) {
		return false
	}
	_, ok := Octal(n, wide-1)
	return ok
}

func isWidth(wide int) bool {
	return wide >= leastWidth && wide <= mostWidth
}

// putBytes writes the mark and the bytes of n, which is 0 at least, the highest one first.
func putBytes(n, wide int) ([]byte, bool) {
	field := make([]byte, wide)
	field[0] = mark
	rest := n
	for i := range wide - 1 {
		field[wide-1-i] = byte(rest % 256)
		rest /= 256
	}
	if rest != 0 {
		return nil, false
	}
	return field, true
}

// guess reads b, of one byte at least, as a number, whatever stands there: what is no number's field gives some number all the same.
func guess(b []byte) int {
	n := 0
	if b[0] == mark {
		for i := range len(b) - 1 {
			n = n*256 + int(b[i+1])
		}
		return n
	}
	for i := range len(b) - 1 {
		n = n*8 + int(b[i]) - '0'
	}
	return n
}
