// Package num is layer 1: see shared/doc/01-num.md.
package num

import (
	"iter"
	"strconv"

	"buttery/api"
)

// maxDigits bounds the noughts that may stand ahead of a number.
const maxDigits = 40

const blank = ' '

// Decimal is the number of digits, Show the digits of one.
func Decimal(s string) (uint64, bool) {
	if len(s) > maxDigits {
		return 0, false
	}
	n, err := strconv.ParseUint(s, 10, 64)
	if err != nil {
		return 0, false // not n: beside a number that is too great ParseUint answers the greatest one
	}
	return n, true
}

func Show(n uint64) string { return strconv.FormatUint(n, 10) }

// Signed is the number of digits with or without a sign.
func Signed(s string) (int, bool) {
	below := s != "" && s[0] == '-'
	if below {
		s = s[1:]
	}
	n, is := Decimal(s)
	if !is || n > api.MaxTime {
		return 0, false
	}
	if below {
		return -int(n), true
	}
	return int(n), true
}

// Put16, Put32 and Put64 are numbers as bytes, the highest first; Get is the number of some.
func Put16(n uint16) []byte { return put(uint64(n), 2) }

func Put32(n uint32) []byte { return put(uint64(n), 4) }

func Put64(n uint64) []byte { return put(n, 8) }

func put(n uint64, size int) []byte {
	b := make([]byte, size)
	for i := range size {
		b[i] = byte(n >> (8 * (size - 1 - i)))
	}
	return b
}

func Get(b []byte) uint64 {
	var n uint64
	for _, x := range b[max(0, len(b)-8):] {
		n = n<<8 | uint64(x)
	}
	return n
}

// Words are the pieces of a line between blanks, one by one.
func Words(s string) iter.Seq[string] {
	return func(yield func(string) bool) {
		start := 0
		for i := range len(s) + 1 { // one more, since the end of s ends a word as a blank does
			if i < len(s) && s[i] != blank {
				continue
			}
			if start < i && !yield(s[start:i]) {
				return
			}
			start = i + 1
		}
	}
}
