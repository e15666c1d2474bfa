package bits

import (
	"math"
	"math/big"
	mathbits "math/bits"
	"slices"
	"testing"
)

const full = ^uint64(0)

// words are those that the tests of a whole row of words go through: edges, and some without a pattern.
func words() []uint64 {
	l := []uint64{0, 1, 2, 3, 5, 15, 16, 0xff, 0xabcd, 0xff0, 1 << 31, 1 << 32, 1<<32 - 1, 1<<40 | 3, 1 << 62, half - 1, half, half + 1, half | 1, full - 1, full, 0x0102030405060708, 0xf0e1d2c3b4a59687, 0xaaaaaaaaaaaaaaaa, 0x5555555555555555}
	w := uint64(1)
	for range 40 {
		w = w*6364136223846793005 + 1442695040888963407
		l = append(l, w)
	}
	for i := range 64 {
		l = append(l, 1<<i)
	}
	return l
}

// counts are those of bits and places: all that there are, and wrong ones on both sides.
func counts() []int {
	l := []int{math.MinInt, math.MinInt + 1, math.MinInt32, -129, -128, -65, -64, -63, -2, -1, 65, 66, 99, 127, 128, 129, 1 << 20, math.MaxInt32, math.MaxInt - 63, math.MaxInt - 1, math.MaxInt}
	for n := range 65 {
		l = append(l, n)
	}
	return l
}

// signed are the words' numbers.
func signed() []int64 {
	l := []int64{0, 1, -1, 2, -2, 3, -3, math.MaxInt32, math.MinInt32, math.MaxInt64, math.MaxInt64 - 1, math.MinInt64, math.MinInt64 + 1}
	for _, w := range words() {
		l = append(l, int64(w))
	}
	return l
}

// power is 2^n.
func power(n int) *big.Int {
	return new(big.Int).Lsh(big.NewInt(1), uint(n))
}

// number is the word as a number.
func number(w uint64) *big.Int {
	return new(big.Int).SetUint64(w)
}

// isThere says by the chapter's words which fields a word has, without numbers that wrap round.
func isThere(lo, n int) bool {
	end := new(big.Int).Add(big.NewInt(int64(lo)), big.NewInt(int64(n)))
	return lo >= 0 && n >= 0 && end.Cmp(big.NewInt(64)) <= 0
}

// P1.1: Low.
func TestLow(t *testing.T) {
	for _, x := range []struct {
		n    int
		want uint64
	}{
		{math.MinInt, 0}, {-64, 0}, {-5, 0}, {-1, 0}, {0, 0}, {1, 1}, {2, 3}, {3, 7}, {8, 0xff}, {31, 1<<31 - 1}, {32, 1<<32 - 1}, {33, 1<<33 - 1},
		{62, 1<<62 - 1}, {63, 1<<63 - 1}, {64, full}, {65, full}, {99, full}, {128, full}, {math.MaxInt, full},
	} {
		if got := Low(x.n); got != x.want {
			t.Errorf("Low(%d) is %#x, not %#x", x.n, got, x.want)
		}
	}
	for n := range 65 {
		want := new(big.Int).Sub(power(n), big.NewInt(1))
		if got := number(Low(n)); got.Cmp(want) != 0 {
			t.Errorf("Low(%d) is %v, not %v", n, got, want)
		}
	}
}

// P1.1: Get, of fields that are there, and that aren't.
func TestGet(t *testing.T) {
	for _, x := range []struct {
		w     uint64
		lo, n int
		want  uint64
	}{
		{0xabcd, 4, 8, 0xbc}, {0xabcd, 0, 64, 0xabcd}, {0xabcd, 0, 4, 0xd}, {0xabcd, 12, 52, 0xa}, {0xabcd, 3, 0, 0}, {full, 0, 0, 0}, {full, 64, 0, 0},
		{1 << 63, 63, 1, 1}, {full, 63, 1, 1}, {full, 0, 64, full}, {full, 1, 63, 1<<63 - 1}, {full, 60, 4, 15},
		{full, 60, 5, 0}, {full, 64, 1, 0}, {full, 1, 64, 0}, {full, 0, 65, 0}, {full, 65, 0, 0}, {full, -1, 5, 0}, {full, -1, 0, 0}, {full, -1, 64, 0}, {full, 5, -1, 0}, {full, 65, -1, 0}, {full, 70, -10, 0}, {full, -4, 68, 0},
		{full, math.MaxInt, 1, 0}, {full, 1, math.MaxInt, 0}, {full, math.MaxInt, math.MaxInt, 0}, {full, math.MinInt, 1, 0}, {full, 1, math.MinInt, 0}, {full, math.MinInt, math.MinInt, 0}, {full, math.MinInt, math.MaxInt, 0},
	} {
		if got := Get(x.w, x.lo, x.n); got != x.want {
			t.Errorf("Get(%#x, %d, %d) is %#x, not %#x", x.w, x.lo, x.n, got, x.want)
		}
	}
}

// P1.1: Get and Put, at all fields and wrong ones, bit by bit.
func TestGetPutAll(t *testing.T) {
	few := []uint64{0, full, 0xf0e1d2c3b4a59687, 0x5555555555555555, 0xabcd}
	for _, lo := range counts() {
		for _, n := range counts() {
			for _, w := range few {
				checkField(t, w, lo, n, ^w)
				checkField(t, w, lo, n, 0x123456789abcdef1)
			}
		}
	}
}

// checkField holds one field's Get and Put against what each of their bits must be.
func checkField(t *testing.T, w uint64, lo, n int, v uint64) {
	t.Helper()
	field, other := uint64(0), w
	if isThere(lo, n) {
		for i := range n {
			field |= w >> (lo + i) & 1 << i
			other = other&^(1<<(lo+i)) | v>>i&1<<(lo+i)
		}
	}
	if got := Get(w, lo, n); got != field {
		t.Fatalf("Get(%#x, %d, %d) is %#x, not %#x", w, lo, n, got, field)
	}
	if got := Put(w, lo, n, v); got != other {
		t.Fatalf("Put(%#x, %d, %d, %#x) is %#x, not %#x", w, lo, n, v, got, other)
	}
}

// P1.1: Put, of fields that are there, and that aren't.
func TestPut(t *testing.T) {
	for _, x := range []struct {
		w     uint64
		lo, n int
		v     uint64
		want  uint64
	}{
		{0xabcd, 4, 8, 0x123, 0xa23d}, {5, 0, 64, 9, 9}, {0, 63, 1, 3, 1 << 63}, {full, 63, 1, 2, 1<<63 - 1}, {full, 0, 64, 0, 0}, {full, 8, 8, 0, full &^ 0xff00}, {0, 8, 8, full, 0xff00},
		{0xabcd, 4, 0, full, 0xabcd}, {0xabcd, 64, 0, full, 0xabcd},
		{0xabcd, 60, 5, 1, 0xabcd}, {0xabcd, 64, 1, full, 0xabcd}, {0xabcd, 0, 65, 1, 0xabcd}, {0xabcd, 1, 64, 1, 0xabcd}, {0xabcd, -1, 4, full, 0xabcd}, {0xabcd, -1, 65, full, 0xabcd}, {0xabcd, 4, -1, full, 0xabcd}, {0xabcd, 70, -10, full, 0xabcd},
		{0xabcd, math.MaxInt, 1, full, 0xabcd}, {0xabcd, math.MaxInt, math.MaxInt, full, 0xabcd}, {0xabcd, math.MinInt, math.MinInt, full, 0xabcd}, {0xabcd, 1, math.MinInt, full, 0xabcd},
	} {
		if got := Put(x.w, x.lo, x.n, x.v); got != x.want {
			t.Errorf("Put(%#x, %d, %d, %#x) is %#x, not %#x", x.w, x.lo, x.n, x.v, got, x.want)
		}
	}
}

// P1.1: Pack is Put of each, one behind the other: a later one over an earlier one, a wrong one passed over.
func TestPack(t *testing.T) {
	for _, x := range []struct {
		w      uint64
		fields []Field
		want   uint64
	}{
		{0xabcd, nil, 0xabcd}, {0xabcd, []Field{}, 0xabcd}, {0xabcd, []Field{{4, 8, 0x123}}, 0xa23d},
		{0, []Field{{0, 4, 5}, {4, 4, 6}, {2, 2, 0}}, 0x61}, {0, []Field{{2, 2, 0}, {0, 4, 5}, {4, 4, 6}}, 0x65},
		{full, []Field{{0, 64, 0}, {63, 1, 1}}, 1 << 63}, {full, []Field{{63, 1, 1}, {0, 64, 0}}, 0},
		{1, []Field{{60, 5, 7}, {4, 4, 6}, {-1, 4, 7}, {0, 65, 9}, {8, -1, 9}, {math.MaxInt, math.MaxInt, 9}, {8, 4, 0xff}}, 0xf61},
	} {
		given := slices.Clone(x.fields)
		if got := Pack(x.w, x.fields...); got != x.want {
			t.Errorf("Pack(%#x, %v) is %#x, not %#x", x.w, x.fields, got, x.want)
		}
		if !slices.Equal(given, x.fields) {
			t.Errorf("Pack changed what it was given: %v, not %v", x.fields, given)
		}
	}
	if got := Pack(7); got != 7 {
		t.Errorf("Pack(7) is %d", got)
	}
}

// P1.2: Join and Split.
func TestJoinSplit(t *testing.T) {
	for _, x := range []struct {
		hi, lo uint32
		w      uint64
	}{
		{0, 0, 0}, {0, 1, 1}, {1, 0, 1 << 32}, {1, 2, 1<<32 | 2}, {256, 3, 1<<40 | 3}, {1 << 31, 0, 1 << 63}, {0, 1 << 31, 1 << 31},
		{math.MaxUint32, 0, full &^ math.MaxUint32}, {0, math.MaxUint32, math.MaxUint32}, {math.MaxUint32, math.MaxUint32, full}, {0x01020304, 0x05060708, 0x0102030405060708},
	} {
		if got := Join(x.hi, x.lo); got != x.w {
			t.Errorf("Join(%#x, %#x) is %#x, not %#x", x.hi, x.lo, got, x.w)
		}
		if hi, lo := Split(x.w); hi != x.hi || lo != x.lo {
			t.Errorf("Split(%#x) is %#x, %#x, not %#x, %#x", x.w, hi, lo, x.hi, x.lo)
		}
	}
	for _, w := range words() {
		if hi, lo := Split(w); uint64(hi) != w/(1<<32) || uint64(lo) != w%(1<<32) || Join(hi, lo) != w {
			t.Errorf("Split(%#x) is %#x, %#x", w, hi, lo)
		}
	}
}

// P1.2: Zig and Zag.
func TestZigZag(t *testing.T) {
	for _, x := range []struct {
		n int64
		w uint64
	}{
		{0, 0}, {-1, 1}, {1, 2}, {-2, 3}, {2, 4}, {-3, 5}, {3, 6}, {math.MaxInt64, full - 1}, {math.MinInt64, full}, {math.MinInt64 + 1, full - 2}, {1 << 62, half}, {-1 << 62, half - 1},
	} {
		if got := Zig(x.n); got != x.w {
			t.Errorf("Zig(%d) is %d, not %d", x.n, got, x.w)
		}
		if got := Zag(x.w); got != x.n {
			t.Errorf("Zag(%d) is %d, not %d", x.w, got, x.n)
		}
	}
	for _, n := range signed() {
		want := new(big.Int).Lsh(big.NewInt(n), 1)
		if n < 0 {
			want.Neg(want).Sub(want, big.NewInt(1))
		}
		if got := number(Zig(n)); got.Cmp(want) != 0 {
			t.Errorf("Zig(%d) is %v, not %v", n, got, want)
		}
		if got := Zag(Zig(n)); got != n {
			t.Errorf("Zag(Zig(%d)) is %d", n, got)
		}
	}
	for _, w := range words() {
		if got := Zig(Zag(w)); got != w {
			t.Errorf("Zig(Zag(%d)) is %d", w, got)
		}
	}
}

// P1.2: Flip and Unflip: words are in the order of their numbers.
func TestFlip(t *testing.T) {
	for _, x := range []struct {
		n int64
		w uint64
	}{
		{math.MinInt64, 0}, {math.MinInt64 + 1, 1}, {-1, half - 1}, {0, half}, {1, half + 1}, {math.MaxInt64, full}, {math.MaxInt64 - 1, full - 1},
	} {
		if got := Flip(x.n); got != x.w {
			t.Errorf("Flip(%d) is %#x, not %#x", x.n, got, x.w)
		}
		if got := Unflip(x.w); got != x.n {
			t.Errorf("Unflip(%#x) is %d, not %d", x.w, got, x.n)
		}
	}
	l := signed()
	slices.Sort(l)
	l = slices.Compact(l)
	for i, n := range l {
		if want := new(big.Int).Add(big.NewInt(n), power(63)); number(Flip(n)).Cmp(want) != 0 || Unflip(Flip(n)) != n {
			t.Errorf("Flip(%d) is %#x, not %v; back %d", n, Flip(n), want, Unflip(Flip(n)))
		}
		if i > 0 && Flip(l[i-1]) >= Flip(n) {
			t.Errorf("Flip(%d) isn't below Flip(%d)", l[i-1], n)
		}
	}
}

// P1.2: Sign.
func TestSign(t *testing.T) {
	for _, x := range []struct {
		w    uint64
		n    int
		want int64
	}{
		{15, 4, -1}, {7, 4, 7}, {8, 4, -8}, {0xf7, 4, 7}, {0xf8, 4, -8}, {1, 1, -1}, {2, 1, 0}, {3, 2, -1}, {1, 2, 1},
		{full, 63, -1}, {1 << 62, 63, -1 << 62}, {1<<62 - 1, 63, 1<<62 - 1}, {half, 63, 0},
		{half, 64, math.MinInt64}, {half - 1, 64, math.MaxInt64}, {full, 64, -1}, {half, 65, math.MinInt64}, {5, 99, 5}, {full, math.MaxInt, -1},
		{7, 0, 0}, {full, 0, 0}, {full, -1, 0}, {full, -64, 0}, {full, math.MinInt, 0},
	} {
		if got := Sign(x.w, x.n); got != x.want {
			t.Errorf("Sign(%#x, %d) is %d, not %d", x.w, x.n, got, x.want)
		}
	}
	for _, w := range words() {
		for n := 1; n <= 64; n++ {
			want := new(big.Int).Mod(number(w), power(n))
			if want.Cmp(power(n-1)) >= 0 {
				want.Sub(want, power(n))
			}
			if got := big.NewInt(Sign(w, n)); got.Cmp(want) != 0 {
				t.Errorf("Sign(%#x, %d) is %v, not %v", w, n, got, want)
			}
		}
	}
}

// P1.3: Turn, to the left and to the right, once round and more.
func TestTurn(t *testing.T) {
	for _, x := range []struct {
		w    uint64
		n    int
		want uint64
	}{
		{1, 0, 1}, {1, 1, 2}, {1, 63, 1 << 63}, {1, 64, 1}, {1, 65, 2}, {1, 127, 1 << 63}, {1, 128, 1}, {1 << 63, 1, 1}, {0x0123456789abcdef, 8, 0x23456789abcdef01},
		{1, -1, 1 << 63}, {2, -1, 1}, {1, -63, 2}, {1, -64, 1}, {1, -65, 1 << 63}, {1, -128, 1}, {0x0123456789abcdef, -8, 0xef0123456789abcd},
		{0, 5, 0}, {full, 5, full}, {full, -5, full}, {5, math.MinInt, 5}, {1, math.MinInt + 1, 2}, {1, math.MaxInt, 1 << 63}, {1, math.MaxInt - 63, 1 << 63 >> 63},
	} {
		if got := Turn(x.w, x.n); got != x.want {
			t.Errorf("Turn(%#x, %d) is %#x, not %#x", x.w, x.n, got, x.want)
		}
	}
	for _, w := range words() {
		for _, n := range counts() {
			if got, want := Turn(w, n), mathbits.RotateLeft64(w, n); got != want {
				t.Errorf("Turn(%#x, %d) is %#x, not %#x", w, n, got, want)
			}
		}
	}
}

// P1.3: Swap.
func TestSwap(t *testing.T) {
	for _, x := range []struct{ w, want uint64 }{
		{0, 0}, {full, full}, {1, 1 << 56}, {1 << 63, 0x80}, {0x0102030405060708, 0x0807060504030201}, {0xff00, 0xff << 48},
	} {
		if got := Swap(x.w); got != x.want {
			t.Errorf("Swap(%#x) is %#x, not %#x", x.w, got, x.want)
		}
	}
	for _, w := range words() {
		if got, want := Swap(w), mathbits.ReverseBytes64(w); got != want || Swap(got) != w {
			t.Errorf("Swap(%#x) is %#x, not %#x; back %#x", w, got, want, Swap(got))
		}
	}
}

// P1.3: Ones, Top and Bottom, of the word 0 too.
func TestOnesTopBottom(t *testing.T) {
	for _, x := range []struct {
		w                 uint64
		ones, top, bottom int
	}{
		{0, 0, -1, -1}, {1, 1, 0, 0}, {2, 1, 1, 1}, {3, 2, 1, 0}, {0xff0, 8, 11, 4}, {1 << 63, 1, 63, 63}, {half | 1, 2, 63, 0}, {full, 64, 63, 0}, {full - 1, 63, 63, 1}, {half - 1, 63, 62, 0}, {1 << 32, 1, 32, 32},
	} {
		if ones, top, bottom := Ones(x.w), Top(x.w), Bottom(x.w); ones != x.ones || top != x.top || bottom != x.bottom {
			t.Errorf("%#x: Ones %d, Top %d, Bottom %d, not %d, %d, %d", x.w, ones, top, bottom, x.ones, x.top, x.bottom)
		}
	}
	for _, w := range words() {
		if got, want := Ones(w), mathbits.OnesCount64(w); got != want {
			t.Errorf("Ones(%#x) is %d, not %d", w, got, want)
		}
		if got, want := Top(w), mathbits.Len64(w)-1; got != want {
			t.Errorf("Top(%#x) is %d, not %d", w, got, want)
		}
		if w == 0 {
			continue
		}
		if got, want := Bottom(w), mathbits.TrailingZeros64(w); got != want {
			t.Errorf("Bottom(%#x) is %d, not %d", w, got, want)
		}
	}
}

// answers is what all the calls say of some arguments.
func answers(w uint64, lo, n int) []uint64 {
	hi, low := Split(w)
	return []uint64{
		Low(n), Get(w, lo, n), Put(w, lo, n, ^w), Pack(w, Field{lo, n, ^w}, Field{n, lo, w}), Join(hi, low), uint64(hi), uint64(low),
		Zig(int64(w)), uint64(Zag(w)), Flip(int64(w)), uint64(Unflip(w)), uint64(Sign(w, n)), Turn(w, n), Swap(w), uint64(Ones(w)), uint64(Top(w)), uint64(Bottom(w)),
	}
}

// P1 and P2: no call panics, whatever it is given, and each says again what it said.
func TestEndsAndSaysAgain(t *testing.T) {
	for _, w := range []uint64{0, 1, half, full, 0xf0e1d2c3b4a59687} {
		for _, lo := range counts() {
			for _, n := range counts() {
				first := answers(w, lo, n)
				if again := answers(w, lo, n); !slices.Equal(first, again) {
					t.Fatalf("%#x, %d, %d: %v, then %v", w, lo, n, first, again)
				}
			}
		}
	}
}
