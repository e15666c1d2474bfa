package digit

import (
	"encoding/binary"
	"math"
	"math/big"
	"slices"
	"testing"

	"vulgate/api"
)

// numbers are those that the tests go through, rising: all the small ones, both sides of each power of two, and some without a pattern.
func numbers() []uint64 {
	l := []uint64{300, 0x0102030405060708, math.MaxUint64}
	for n := range uint64(1024) {
		l = append(l, n)
	}
	for i := range 64 {
		p := uint64(1) << i
		l = append(l, p-1, p, p+1)
	}
	w := uint64(1)
	for i := range 200 {
		w = w*6364136223846793005 + 1442695040888963407
		l = append(l, w, w>>(i%64))
	}
	slices.Sort(l)
	return slices.Compact(l)
}

// ordered are a number's ordered bytes by the chapter's words.
func ordered(n uint64) []byte {
	b := new(big.Int).SetUint64(n).Bytes() // the highest first, none of 0
	return append([]byte{byte(len(b))}, b...)
}

// small are a number's small bytes by the chapter's words: the digits of base 128.
func small(n uint64) []byte {
	left, base, group := new(big.Int).SetUint64(n), big.NewInt(128), new(big.Int)
	var b []byte
	for {
		left.DivMod(left, base, group)
		if left.Sign() == 0 {
			return append(b, byte(group.Int64()))
		}
		b = append(b, byte(group.Int64()+128))
	}
}

// P2.1: Ordered and SizeOrdered.
func TestOrdered(t *testing.T) {
	for _, x := range []struct {
		l    []uint64
		want []byte
	}{
		{nil, nil}, {[]uint64{}, nil}, {[]uint64{0}, []byte{0}}, {[]uint64{1}, []byte{1, 1}}, {[]uint64{255}, []byte{1, 255}}, {[]uint64{256}, []byte{2, 1, 0}}, {[]uint64{0, 256}, []byte{0, 2, 1, 0}}, {[]uint64{256, 0}, []byte{2, 1, 0, 0}},
		{[]uint64{0, 0, 0}, []byte{0, 0, 0}}, {[]uint64{0x010203}, []byte{3, 1, 2, 3}}, {[]uint64{1 << 56}, []byte{8, 1, 0, 0, 0, 0, 0, 0, 0}}, {[]uint64{1<<56 - 1}, []byte{7, 255, 255, 255, 255, 255, 255, 255}},
		{[]uint64{math.MaxUint64}, []byte{8, 255, 255, 255, 255, 255, 255, 255, 255}}, {[]uint64{0x0102030405060708, 9}, []byte{8, 1, 2, 3, 4, 5, 6, 7, 8, 1, 9}},
	} {
		given := slices.Clone(x.l)
		if got := Ordered(x.l...); !slices.Equal(got, x.want) {
			t.Errorf("Ordered(%v) is %v, not %v", x.l, got, x.want)
		}
		if !slices.Equal(given, x.l) {
			t.Errorf("Ordered changed what it was given: %v, not %v", x.l, given)
		}
	}
	for _, n := range numbers() {
		want := ordered(n)
		if got := Ordered(n); !slices.Equal(got, want) {
			t.Errorf("Ordered(%d) is %v, not %v", n, got, want)
		}
		if got := SizeOrdered(n); got != len(want) {
			t.Errorf("SizeOrdered(%d) is %d, not %d", n, got, len(want))
		}
	}
}

// P2.1: Small and SizeSmall.
func TestSmall(t *testing.T) {
	for _, x := range []struct {
		l    []uint64
		want []byte
	}{
		{nil, nil}, {[]uint64{}, nil}, {[]uint64{0}, []byte{0}}, {[]uint64{1}, []byte{1}}, {[]uint64{127}, []byte{127}}, {[]uint64{128}, []byte{128, 1}}, {[]uint64{300}, []byte{172, 2}}, {[]uint64{0, 300, 5}, []byte{0, 172, 2, 5}},
		{[]uint64{0, 0}, []byte{0, 0}}, {[]uint64{1<<14 - 1}, []byte{255, 127}}, {[]uint64{1 << 14}, []byte{128, 128, 1}}, {[]uint64{1<<63 - 1}, []byte{255, 255, 255, 255, 255, 255, 255, 255, 127}},
		{[]uint64{1 << 63}, []byte{128, 128, 128, 128, 128, 128, 128, 128, 128, 1}}, {[]uint64{math.MaxUint64}, []byte{255, 255, 255, 255, 255, 255, 255, 255, 255, 1}},
	} {
		given := slices.Clone(x.l)
		if got := Small(x.l...); !slices.Equal(got, x.want) {
			t.Errorf("Small(%v) is %v, not %v", x.l, got, x.want)
		}
		if !slices.Equal(given, x.l) {
			t.Errorf("Small changed what it was given: %v, not %v", x.l, given)
		}
	}
	for _, n := range numbers() {
		want := small(n)
		if got := Small(n); !slices.Equal(got, want) || !slices.Equal(got, binary.AppendUvarint(nil, n)) {
			t.Errorf("Small(%d) is %v, not %v", n, got, want)
		}
		if got := SizeSmall(n); got != len(want) {
			t.Errorf("SizeSmall(%d) is %d, not %d", n, got, len(want))
		}
	}
}

// P2.1: the bytes of many numbers are those of each, one behind the other.
func TestRows(t *testing.T) {
	l := numbers()
	var inOrder, asFew []byte
	for _, n := range l {
		inOrder = append(inOrder, ordered(n)...)
		asFew = append(asFew, small(n)...)
	}
	if !slices.Equal(Ordered(l...), inOrder) {
		t.Error("Ordered of all the numbers isn't the bytes of each")
	}
	if !slices.Equal(Small(l...), asFew) {
		t.Error("Small of all the numbers isn't the bytes of each")
	}
}

// P2.1: answers are new memory.
func TestNewMemory(t *testing.T) {
	for _, bytes := range []func(...uint64) []byte{Ordered, Small} {
		first := bytes(300, 7)
		want := slices.Clone(first)
		second := bytes(300, 7)
		for i := range second {
			second[i] = 99
		}
		if !slices.Equal(first, want) || !slices.Equal(bytes(300, 7), want) {
			t.Error("two answers share memory")
		}
	}
}

// reading is what a reading call answers.
type reading struct {
	n    uint64
	size int
	err  api.Errno
}

// readOrdered and readSmall are the calls, with one answer.
func readOrdered(b []byte) reading {
	n, size, err := ReadOrdered(b)
	return reading{n, size, err}
}

func readSmall(b []byte) reading {
	n, size, err := ReadSmall(b)
	return reading{n, size, err}
}

// wrong is an answer with an error.
func wrong(err api.Errno) reading {
	return reading{err: err}
}

// P2.2: ReadOrdered, of bytes that are right, with others behind them, and of each error, also where several apply.
func TestReadOrdered(t *testing.T) {
	for _, x := range []struct {
		b    []byte
		want reading
	}{
		{nil, wrong(api.ErrEnd)}, {[]byte{}, wrong(api.ErrEnd)},
		{[]byte{0}, reading{0, 1, 0}}, {[]byte{0, 9}, reading{0, 1, 0}}, {[]byte{0, 0}, reading{0, 1, 0}}, {[]byte{1, 1}, reading{1, 2, 0}}, {[]byte{1, 255, 0}, reading{255, 2, 0}}, {[]byte{2, 1, 0, 7}, reading{256, 3, 0}}, {[]byte{3, 1, 0, 0}, reading{1 << 16, 4, 0}},
		{[]byte{8, 1, 2, 3, 4, 5, 6, 7, 8}, reading{0x0102030405060708, 9, 0}}, {[]byte{8, 255, 255, 255, 255, 255, 255, 255, 255, 255}, reading{math.MaxUint64, 9, 0}}, {[]byte{8, 1, 0, 0, 0, 0, 0, 0, 0}, reading{1 << 56, 9, 0}},
		{[]byte{9}, wrong(api.ErrForm)}, {[]byte{9, 1, 1, 1, 1, 1, 1, 1, 1, 1}, wrong(api.ErrForm)}, {[]byte{9, 0, 1, 1, 1, 1, 1, 1, 1, 1}, wrong(api.ErrForm)}, {[]byte{128}, wrong(api.ErrForm)}, {[]byte{255, 1}, wrong(api.ErrForm)},
		{[]byte{1}, wrong(api.ErrEnd)}, {[]byte{2, 1}, wrong(api.ErrEnd)}, {[]byte{8, 1, 1, 1, 1, 1, 1, 1}, wrong(api.ErrEnd)}, {[]byte{8}, wrong(api.ErrEnd)},
		{[]byte{2, 0}, wrong(api.ErrEnd)}, {[]byte{8, 0, 0, 0, 0, 0, 0, 0}, wrong(api.ErrEnd)},
		{[]byte{1, 0}, wrong(api.ErrForm)}, {[]byte{1, 0, 1}, wrong(api.ErrForm)}, {[]byte{2, 0, 1}, wrong(api.ErrForm)}, {[]byte{8, 0, 1, 1, 1, 1, 1, 1, 1}, wrong(api.ErrForm)},
	} {
		if got := readOrdered(x.b); got != x.want {
			t.Errorf("ReadOrdered(%v) is %v, not %v", x.b, got, x.want)
		}
	}
}

// P2.2: ReadSmall, of bytes that are right, with others behind them, and of each error, byte by byte.
func TestReadSmall(t *testing.T) {
	nine := slices.Repeat([]byte{128}, 9)
	with := func(b ...byte) []byte { return append(slices.Clone(nine), b...) }
	for _, x := range []struct {
		b    []byte
		want reading
	}{
		{nil, wrong(api.ErrEnd)}, {[]byte{}, wrong(api.ErrEnd)},
		{[]byte{0}, reading{0, 1, 0}}, {[]byte{0, 9}, reading{0, 1, 0}}, {[]byte{0, 0}, reading{0, 1, 0}}, {[]byte{127, 128}, reading{127, 1, 0}}, {[]byte{128, 1}, reading{128, 2, 0}}, {[]byte{172, 2}, reading{300, 2, 0}}, {[]byte{172, 2, 5}, reading{300, 2, 0}}, {[]byte{128, 128, 1, 0}, reading{1 << 14, 3, 0}},
		{append(slices.Repeat([]byte{255}, 8), 127), reading{1<<63 - 1, 9, 0}}, {with(1), reading{1 << 63, 10, 0}}, {with(1, 200), reading{1 << 63, 10, 0}}, {append(slices.Repeat([]byte{255}, 9), 1), reading{math.MaxUint64, 10, 0}},
		{[]byte{128}, wrong(api.ErrEnd)}, {[]byte{255}, wrong(api.ErrEnd)}, {[]byte{128, 128}, wrong(api.ErrEnd)}, {nine, wrong(api.ErrEnd)},
		{with(2), wrong(api.ErrForm)}, {with(127), wrong(api.ErrForm)}, {with(128), wrong(api.ErrForm)}, {with(129), wrong(api.ErrForm)}, {with(255), wrong(api.ErrForm)}, {with(128, 1), wrong(api.ErrForm)}, {with(129, 0), wrong(api.ErrForm)},
		{[]byte{128, 0}, wrong(api.ErrForm)}, {[]byte{255, 0}, wrong(api.ErrForm)}, {[]byte{128, 0, 1}, wrong(api.ErrForm)}, {[]byte{129, 129, 0}, wrong(api.ErrForm)}, {with(0), wrong(api.ErrForm)},
	} {
		if got := readSmall(x.b); got != x.want {
			t.Errorf("ReadSmall(%v) is %v, not %v", x.b, got, x.want)
		}
	}
}

// P2.2: each number is read from its bytes, whatever comes behind, and each beginning of them is too short.
func TestReadAgain(t *testing.T) {
	for _, n := range numbers() {
		for _, x := range []struct {
			b    []byte
			read func([]byte) reading
		}{{ordered(n), readOrdered}, {small(n), readSmall}} {
			for _, behind := range [][]byte{nil, {0}, {1}, {128}, {255, 255}} {
				b := append(slices.Clone(x.b), behind...)
				if got, want := x.read(b), (reading{n, len(x.b), api.OK}); got != want {
					t.Errorf("%v is read as %v, not %v", b, got, want)
				}
			}
			for i := range x.b {
				if got := x.read(x.b[:i]); got != wrong(api.ErrEnd) {
					t.Errorf("%v is read as %v", x.b[:i], got)
				}
			}
		}
	}
}

// rows gives all rows of at most many bytes of some.
func rows(some []byte, many int, yield func([]byte)) {
	var grow func(b []byte)
	grow = func(b []byte) {
		yield(b)
		if len(b) == many {
			return
		}
		for _, c := range some {
			grow(append(slices.Clone(b), c))
		}
	}
	grow(nil)
}

// P2.2: no other bytes are read: what is read is the bytes of that number.
func TestReadNoOther(t *testing.T) {
	all := make([]byte, 256)
	for i := range all {
		all[i] = byte(i)
	}
	edges := []byte{0, 1, 2, 127, 128, 255}
	check := func(b []byte) {
		if got := readOrdered(b); (got.err == api.OK) != (got.size > 0) || got.err == api.OK && !slices.Equal(b[:got.size], ordered(got.n)) || got.err != api.OK && got.n != 0 {
			t.Errorf("ReadOrdered(%v) is %v", b, got)
		}
		if got := readSmall(b); (got.err == api.OK) != (got.size > 0) || got.err == api.OK && !slices.Equal(b[:got.size], small(got.n)) || got.err != api.OK && got.n != 0 {
			t.Errorf("ReadSmall(%v) is %v", b, got)
		}
	}
	rows(all, 2, check)
	rows(edges, 6, check)
	for _, n := range []int{7, 8, 9, 10, 11} {
		rows(edges, 3, func(b []byte) { check(append(slices.Repeat([]byte{129}, n), b...)) })
		rows(edges, 3, func(b []byte) { check(append(append([]byte{byte(n)}, b...), slices.Repeat([]byte{5}, n-3)...)) })
	}
}

// P2.2: what is read isn't changed.
func TestReadChangesNothing(t *testing.T) {
	for _, b := range [][]byte{{2, 1, 0, 7}, {172, 2, 5}, {128, 0}, {9, 1}} {
		given := slices.Clone(b)
		readOrdered(b)
		readSmall(b)
		if !slices.Equal(given, b) {
			t.Errorf("%v became %v", given, b)
		}
	}
}

// P2.3: Compare.
func TestCompare(t *testing.T) {
	for _, x := range []struct {
		a, b []byte
		want int
	}{
		{nil, nil, 0}, {nil, []byte{}, 0}, {[]byte{}, nil, 0}, {nil, []byte{0}, -1}, {[]byte{0}, nil, 1},
		{[]byte{1}, []byte{1}, 0}, {[]byte{1}, []byte{2}, -1}, {[]byte{127}, []byte{128}, -1}, {[]byte{255}, []byte{0}, 1}, {[]byte{1}, []byte{1, 0}, -1}, {[]byte{1, 2}, []byte{1}, 1},
		{[]byte{1, 2}, []byte{1, 3}, -1}, {[]byte{2}, []byte{1, 9}, 1}, {[]byte{1, 9, 9}, []byte{2}, -1}, {[]byte{1, 2, 3}, []byte{1, 2, 3}, 0}, {[]byte{1, 200, 0}, []byte{1, 100, 5}, 1},
	} {
		if got := Compare(x.a, x.b); got != x.want {
			t.Errorf("Compare(%v, %v) is %d, not %d", x.a, x.b, got, x.want)
		}
		if got := Compare(x.b, x.a); got != -x.want {
			t.Errorf("Compare(%v, %v) is %d, not %d", x.b, x.a, got, -x.want)
		}
	}
}

// P2.3: Compare holds all short rows in one order, by the first unlike byte.
func TestCompareAll(t *testing.T) {
	var l [][]byte
	rows([]byte{0, 1, 128, 255}, 3, func(b []byte) { l = append(l, b) }) // each ahead of what it begins, and of the greater ones
	for i, a := range l {
		for j, b := range l {
			want := 0
			if i < j {
				want = -1
			} else if i > j {
				want = 1
			}
			if got := Compare(a, b); got != want {
				t.Errorf("Compare(%v, %v) is %d, not %d", a, b, got, want)
			}
		}
	}
}

// P2.3: ordered bytes come in the order of their numbers, and none is the beginning of another one's.
func TestOrderedInOrder(t *testing.T) {
	l := numbers() // rising
	bytes := make([][]byte, len(l))
	for i, n := range l {
		bytes[i] = Ordered(n)
	}
	for i, a := range bytes {
		for j, b := range bytes[i+1:] {
			if Compare(a, b) != -1 || Compare(b, a) != 1 || len(a) <= len(b) && slices.Equal(a, b[:len(a)]) || len(b) <= len(a) && slices.Equal(b, a[:len(b)]) {
				t.Fatalf("%v of %d, %v of %d: %d", a, l[i], b, l[i+1+j], Compare(a, b))
			}
		}
	}
}

// P2.3: so do rows of as many numbers.
func TestOrderedRowsInOrder(t *testing.T) {
	l := []uint64{0, 1, 2, 255, 256, 257, 1 << 16, 1 << 32, 1<<56 - 1, 1 << 56, 1 << 63, math.MaxUint64}
	var some [][]uint64
	for _, a := range l {
		for _, b := range l {
			some = append(some, []uint64{a, b, 7}, []uint64{a, b, 300})
		}
	}
	for _, a := range some {
		for _, b := range some {
			if got, want := Compare(Ordered(a...), Ordered(b...)), slices.Compare(a, b); got != want {
				t.Errorf("rows %v, %v: %d, not %d", a, b, got, want)
			}
		}
	}
}
