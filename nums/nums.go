// Package nums is layer 2, sums that stop at a cap, and numbers and texts as bytes: see shared/doc/02-nums.md.
package nums

import "sandglass/api"

// Sizes.
const (
	byteBits  = 8
	halfBits  = 32
	mostWidth = 8
	mostText  = 255
)

// Add tells a and b together, but most, if that is less.
func Add(a uint64, b uint64, most uint64) uint64 {
	sum := a + b
	if sum < a {
		return most
	}
	return min(sum, most)
}

// Mul tells a times b, but most, if that is less.
func Mul(a uint64, b uint64, most uint64) uint64 {
	aHigh, aLow := halves(a)
	bHigh, bLow := halves(b)
	if aHigh != 0 && bHigh != 0 {
		return most
	}
	// One of the two products is 0: together they do not wrap round.
	middle := aHigh*bLow + aLow*bHigh
	high, low := halves(middle)
	if high != 0 {
		return most
	}
	return Add(low<<halfBits, aLow*bLow, most)
}

// halves tells the higher and the lower 32 bits of n.
func halves(n uint64) (uint64, uint64) {
	return n >> halfBits, uint64(uint32(n))
}

// Sub tells a less b; 0, if b is above a.
func Sub(a uint64, b uint64) uint64 {
	if b > a {
		return 0
	}
	return a - b
}

// Up tells a divided by b, rounded up; 0, if b is 0.
func Up(a uint64, b uint64) uint64 {
	if b == 0 {
		return 0
	}
	// Adding b - 1 ahead of dividing could wrap round.
	if a%b != 0 {
		return a/b + 1
	}
	return a / b
}

// Wide tells the lowest bytes of n, the highest one first; none, if width is not 0 to 8.
func Wide(n uint64, width int) string {
	if !fits(width) {
		return ""
	}
	wide := make([]byte, width)
	for i := range wide {
		wide[i] = byte(n >> (byteBits * (width - 1 - i)))
	}
	return string(wide)
}

// Narrow tells the number whose bytes are s, the highest one first; false, if there are more than 8.
func Narrow(s string) (uint64, bool) {
	if !fits(len(s)) {
		return 0, false
	}
	n := uint64(0)
	for i := range len(s) {
		n = n<<byteBits | uint64(s[i])
	}
	return n, true
}

// Number tells the number of the width bytes of s from place at on, and the place behind them.
func Number(s string, at int, width int) (uint64, int, api.Errno) {
	if !fits(width) || !within(s, at) {
		return 0, 0, api.ErrArg
	}
	if len(s)-at < width {
		return 0, 0, api.ErrCut
	}
	n, _ := Narrow(s[at : at+width])
	return n, at + width, api.OK
}

// Put tells a byte with the length of s, and s behind it; false, if s has more than 255 bytes.
func Put(s string) (string, bool) {
	if len(s) > mostText {
		return "", false
	}
	return Wide(uint64(len(s)), 1) + s, true
}

// Text tells the text of which Put stands in s from place at on, and the place behind it.
func Text(s string, at int) (string, int, api.Errno) {
	length, from, code := Number(s, at, 1)
	if code != api.OK {
		return "", 0, code
	}
	if len(s)-from < int(length) {
		return "", 0, api.ErrCut
	}
	end := from + int(length)
	return s[from:end], end, api.OK
}

func fits(width int) bool {
	return width >= 0 && width <= mostWidth
}

// within tells whether at is a place of s, or the one behind its last byte.
func within(s string, at int) bool {
	return at >= 0 && at <= len(s)
}
