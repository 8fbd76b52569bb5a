// Package bits is layer 1, fields of bits in words: see shared/doc/01-bits.md.
package bits

import (
	mathbits "math/bits"
	"slices"
)

// Sizes, in bits.
const (
	bitSize = 1 << (6 * iota)
	wordSize
)

// mostWidths is how many fields may be packed at once.
const mostWidths = 100

// Get tells the number whose bits the field has; false, if the field is not there.
func Get(w []uint64, at int, width int) (uint64, bool) {
	if !there(w, at, width) {
		return 0, false
	}
	return read(w, at, width), true
}

// Set tells words in which the field has the lowest bits of n, and the others are those of w; false, if the field is not there.
func Set(w []uint64, at int, width int, n uint64) ([]uint64, bool) {
	if !there(w, at, width) {
		return nil, false
	}
	changed := slices.Clone(w)
	write(changed, at, width, n)
	return changed, true
}

// Next tells the first bit from from on that is 1; false, if there is none.
func Next(w []uint64, from int) (int, bool) {
	from = max(from, 0)
	skipped := from % wordSize
	for i := from / wordSize; i < len(w); i++ {
		if rest := w[i] >> skipped; rest != 0 {
			return i*wordSize + skipped + mathbits.TrailingZeros64(rest), true
		}
		skipped = 0
	}
	return 0, false
}

// Count tells how many bits are 1.
func Count(w []uint64) int {
	n := 0
	for _, word := range w {
		n += mathbits.OnesCount64(word)
	}
	return n
}

// Pack tells words with these values in fields of these widths, one behind the other; false, if they can't be.
func Pack(widths []int, values []uint64) ([]uint64, bool) {
	total, may := sum(widths)
	if !may || len(values) != len(widths) {
		return nil, false
	}
	w := make([]uint64, words(total))
	at := 0
	for i, width := range widths {
		if values[i]&^ones(width) != 0 {
			return nil, false
		}
		write(w, at, width, values[i])
		at += width
	}
	return w, true
}

// Unpack tells the values of which Pack tells w; false, if there are none.
func Unpack(widths []int, w []uint64) ([]uint64, bool) {
	total, may := sum(widths)
	if !may || len(w) != words(total) {
		return nil, false
	}
	// Pack leaves all bits behind the last field 0.
	if _, more := Next(w, total); more {
		return nil, false
	}
	values := make([]uint64, len(widths))
	at := 0
	for i, width := range widths {
		values[i] = read(w, at, width)
		at += width
	}
	return values, true
}

// there tells whether the field lies within w. Nothing is added to at, which may be as great as an int can be.
func there(w []uint64, at int, width int) bool {
	return at >= 0 && fits(width) && at <= len(w)*wordSize-width
}

func fits(width int) bool {
	return width >= 0 && width <= wordSize
}

// ones has the lowest width bits 1. A shift by 64 leaves 0, so that of 64 bits all are 1.
func ones(width int) uint64 {
	return uint64(bitSize)<<width - 1
}

// words tells how few words have room for total bits.
func words(total int) int {
	return (total + wordSize - 1) / wordSize
}

// sum tells how many bits fields of these widths have together; false, if they may not be packed.
func sum(widths []int) (int, bool) {
	if len(widths) > mostWidths {
		return 0, false
	}
	total := 0
	for _, width := range widths {
		if !fits(width) {
			return 0, false
		}
		total += width
	}
	return total, true
}

// read tells the number of a field that is there.
func read(w []uint64, at int, width int) uint64 {
	// A field without bits may lie behind the last word.
	if width == 0 {
		return 0
	}
	i, shift := at/wordSize, at%wordSize
	n := w[i] >> shift
	if shift+width > wordSize {
		n |= w[i+1] << (wordSize - shift)
	}
	return n & ones(width)
}

// write changes a field of w that is there.
func write(w []uint64, at int, width int, n uint64) {
	// A field without bits may lie behind the last word.
	if width == 0 {
		return
	}
	i, shift := at/wordSize, at%wordSize
	field := ones(width)
	n &= field
	w[i] = w[i]&^(field<<shift) | n<<shift
	if shift+width > wordSize {
		lower := wordSize - shift
		w[i+1] = w[i+1]&^(field>>lower) | n>>lower
	}
}
