// Package bits is layer 1: fields of words, by shifts and conversions. See shared/doc/01-bits.md.
package bits

// size is how many bits a word has.
const size = 64

// half is 2^63, the highest bit alone.
const half uint64 = 1 << (size - 1)

// Field is a field of a word, and what is put there.
type Field struct {
	Lo, N int
	V     uint64
}

// Low: the lowest n bits.
func Low(n int) uint64 {
	if n < 1 {
		return 0
	}
	if n >= size {
		return ^uint64(0)
	}
	return uint64(1)<<n - 1
}

// there tells whether a word has the field of n bits from lo on. It subtracts, since lo+n may wrap round.
func there(lo, n int) bool {
	return lo >= 0 && n >= 0 && n <= size && lo <= size-n
}

// Get: a field.
func Get(w uint64, lo, n int) uint64 {
	if !there(lo, n) {
		return 0
	}
	return w >> lo & Low(n)
}

// Put: another field.
func Put(w uint64, lo, n int, v uint64) uint64 {
	if !there(lo, n) {
		return w
	}
	field := Low(n) << lo
	return w&^field | v<<lo&field
}

// Pack: some other fields.
func Pack(w uint64, fields ...Field) uint64 {
	put := func(f Field) { w = Put(w, f.Lo, f.N, f.V) }
	for _, f := range fields {
		put(f)
	}
	return w
}

// Join: a word of two halves.
func Join(hi, lo uint32) uint64 {
	return uint64(hi)<<32 | uint64(lo)
}

// Split: its halves.
func Split(w uint64) (uint32, uint32) {
	return uint32(w >> 32), uint32(w)
}

// Zig: a signed number, the sign lowest.
func Zig(n int64) uint64 {
	twice := uint64(n) << 1
	if n < 0 {
		return ^twice // -2n-1, also where 2n has no room
	}
	return twice
}

// Zag: the number.
func Zag(w uint64) int64 {
	n := int64(w >> 1)
	if w&1 == 1 {
		return ^n
	}
	return n
}

// Flip: a signed number, in the order of words.
func Flip(n int64) uint64 {
	return uint64(n) + half
}

// Unflip: the number.
func Unflip(w uint64) int64 {
	return int64(w - half)
}

// Sign: n bits as a signed number.
func Sign(w uint64, n int) int64 {
	if n < 1 {
		return 0
	}
	if n >= size {
		return int64(w)
	}
	// To the top and back: the shift of a signed number brings its sign along.
	return int64(w<<(size-n)) >> (size - n)
}

// Turn: turned left.
func Turn(w uint64, n int) uint64 {
	left := uint(n) % size // size divides 2^32 and 2^64: so numbers below 0 turn right
	return w<<left | w>>(size-left)
}

// Swap: the bytes the other way round.
func Swap(w uint64) uint64 {
	var turned uint64
	for i := range size / 8 {
		turned = turned<<8 | Get(w, 8*i, 8)
	}
	return turned
}

// one tells whether the bit i is 1.
func one(w uint64, i int) bool {
	return w>>i&1 == 1
}

// Ones: how many.
func Ones(w uint64) int {
	many := 0
	for i := range size {
		if one(w, i) {
			many++
		}
	}
	return many
}

// Top: the highest one.
func Top(w uint64) int {
	top := -1
	for i := range size {
		if one(w, i) {
			top = i
		}
	}
	return top
}

// Bottom: the lowest one.
func Bottom(w uint64) int {
	for i := range size {
		if one(w, i) {
			return i
		}
	}
	return -1
}
