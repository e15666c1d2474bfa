package pins

import (
	"math"
	"slices"
	"testing"

	"vulgate/api"
)

// P13.1: the numbers of pins that are put one behind the other, up to 64 and beyond, at times of many kinds.
func TestPin(t *testing.T) {
	for name, time := range map[string]func(i int) uint64{
		"rising":   func(i int) uint64 { return uint64(i) },
		"falling":  func(i int) uint64 { return uint64(100 - i) },
		"one":      func(i int) uint64 { return 7 },
		"0":        func(i int) uint64 { return 0 },
		"greatest": func(i int) uint64 { return math.MaxUint64 },
		"bounds":   func(i int) uint64 { return -uint64(i % 2) },
		"bits":     func(i int) uint64 { return 1 << i },
		"high":     func(i int) uint64 { return math.MaxUint64 - uint64(i) },
		"several":  func(i int) uint64 { return uint64(i * 5 % 7) },
		"mixed":    func(i int) uint64 { return uint64(i) * 0x9e3779b97f4a7c15 },
	} {
		t.Run(name, func(t *testing.T) {
			var x Table
			m := plain{}
			for i := range 64 {
				if id, err := x.Pin(time(i)); id != i || err != api.OK {
					t.Errorf("Pin(%d): %d, %d, not %d", time(i), id, err, i)
				}
				m[i] = time(i)
				checkTable(t, &x, m)
			}
			for i := range 70 {
				if id, err := x.Pin(time(i)); id != 0 || err != api.ErrFull {
					t.Errorf("Pin(%d) into 64: %d, %d", time(i), id, err)
				}
			}
			checkTable(t, &x, m)
		})
	}
}

// P13.1: a pin into a full table changes nothing, neither ahead of an Unpin nor when its place was taken again.
func TestFull(t *testing.T) {
	for id := range 64 {
		x, m := holding(t, many(64)...)
		for _, time := range []uint64{0, 1, m[0], m[id], m[63], 999, math.MaxUint64} {
			if got, err := x.Pin(time); got != 0 || err != api.ErrFull {
				t.Errorf("Pin(%d) into 64: %d, %d", time, got, err)
			}
			checkTable(t, x, m, time)
		}
		unpin(t, x, m, id)
		checkTable(t, x, m)
		if got, err := x.Pin(1000); got != id || err != api.OK {
			t.Errorf("Pin(1000) into 63, %d is free: %d, %d", id, got, err)
		}
		m[id] = 1000
		if got, err := x.Pin(1001); got != 0 || err != api.ErrFull {
			t.Errorf("Pin(1001) into 64: %d, %d", got, err)
		}
		checkTable(t, x, m, 1001)
	}
}

// P13.1: the least number that is free, behind Unpin of several.
func TestLeastFree(t *testing.T) {
	for _, row := range []struct {
		holds int
		gone  []int
		ids   []int
	}{
		{0, nil, []int{0, 1, 2}},
		{1, nil, []int{1, 2}},
		{1, []int{0}, []int{0, 1}},
		{3, nil, []int{3, 4}},
		{3, []int{0}, []int{0, 3, 4}},
		{3, []int{1}, []int{1, 3}},
		{3, []int{2}, []int{2, 3}},
		{3, []int{2, 0}, []int{0, 2, 3}},
		{3, []int{0, 1}, []int{0, 1, 3}},
		{3, []int{2, 1, 0}, []int{0, 1, 2, 3}},
		{10, []int{9, 4, 7}, []int{4, 7, 9, 10}},
		{33, []int{32, 31}, []int{31, 32, 33}},
		{63, nil, []int{63}},
		{63, []int{62}, []int{62, 63}},
		{64, []int{63}, []int{63}},
		{64, []int{0}, []int{0}},
		{64, []int{63, 62, 0, 33}, []int{0, 33, 62, 63}},
		{64, []int{31, 32}, []int{31, 32}},
	} {
		x, m := holding(t, many(row.holds)...)
		unpin(t, x, m, row.gone...)
		for i, id := range row.ids {
			if got, err := x.Pin(uint64(500 + i)); got != id || err != api.OK {
				t.Errorf("%d pins, without %d, the %d. Pin: %d, %d, not %d", row.holds, row.gone, i, got, err, id)
			}
			m[id] = uint64(500 + i)
		}
		checkTable(t, x, m)
	}
}

// P13.1: Unpin's numbers, of which some had a pin.
func TestUnpin(t *testing.T) {
	for _, row := range []struct {
		l    []int
		many int
		left plain
	}{
		{nil, 0, plain{0: 7, 1: 3, 2: 7, 3: 9}},
		{[]int{}, 0, plain{0: 7, 1: 3, 2: 7, 3: 9}},
		{[]int{0}, 1, plain{1: 3, 2: 7, 3: 9}},
		{[]int{1}, 1, plain{0: 7, 2: 7, 3: 9}},
		{[]int{2}, 1, plain{0: 7, 1: 3, 3: 9}},
		{[]int{3}, 1, plain{0: 7, 1: 3, 2: 7}},
		{[]int{4}, 0, plain{0: 7, 1: 3, 2: 7, 3: 9}},
		{[]int{7}, 0, plain{0: 7, 1: 3, 2: 7, 3: 9}},
		{[]int{63}, 0, plain{0: 7, 1: 3, 2: 7, 3: 9}},
		{[]int{64}, 0, plain{0: 7, 1: 3, 2: 7, 3: 9}},
		{[]int{-1}, 0, plain{0: 7, 1: 3, 2: 7, 3: 9}},
		{[]int{math.MinInt, math.MaxInt, -64, -63, 65, 128, 1 << 32, -1 << 32}, 0, plain{0: 7, 1: 3, 2: 7, 3: 9}},
		{[]int{0, 0}, 1, plain{1: 3, 2: 7, 3: 9}},
		{[]int{2, 0, 2, 0, 2}, 2, plain{1: 3, 3: 9}},
		{[]int{3, 2, 1, 0}, 4, plain{}},
		{[]int{0, 1, 2, 3}, 4, plain{}},
		{[]int{64, 1, -1, 1, math.MaxInt, 3, math.MinInt, 5}, 2, plain{0: 7, 2: 7}},
		{numbers(), 4, plain{}},
		{append(numbers(), numbers()...), 4, plain{}},
	} {
		x, _ := holding(t, 7, 3, 7, 9)
		was := slices.Clone(row.l)
		if many := x.Unpin(row.l...); many != row.many || !slices.Equal(row.l, was) {
			t.Errorf("Unpin of %d: %d, not %d", was, many, row.many)
		}
		checkTable(t, x, row.left)
		if many := x.Unpin(row.l...); many != 0 {
			t.Errorf("Unpin of %d again: %d", row.l, many)
		}
		checkTable(t, x, row.left)
	}
}

// P13.1: each number alone, and all but it, of a full table.
func TestUnpinEach(t *testing.T) {
	for _, id := range numbers() {
		x, m := holding(t, many(64)...)
		unpin(t, x, m, id)
		checkTable(t, x, m)
		y, n := holding(t, many(64)...)
		unpin(t, y, n, slices.DeleteFunc(numbers(), func(other int) bool { return other == id })...)
		checkTable(t, y, n)
		if _, is := y.At(id); is != (id >= 0 && id < 64) || y.Len() > 1 {
			t.Errorf("all but %d: %t, %d", id, is, y.Len())
		}
	}
}

// P13.3: a pin stays at its time till its number is unpinned, whatever others do.
func TestStays(t *testing.T) {
	for _, time := range []uint64{0, 1, 50, math.MaxUint64} {
		for id := range 64 {
			x, m := holding(t, many(id)...)
			pin(t, x, m, time)
			others := slices.DeleteFunc(numbers(), func(other int) bool { return other == id })
			for range 3 {
				pin(t, x, m, many(70)...)
				pin(t, x, m, time, time, 0, math.MaxUint64)
				if at, is := x.At(id); at != time || !is || x.Count(time) < 1 {
					t.Errorf("At(%d) among 64: %d, %t, not %d", id, at, is, time)
				}
				unpin(t, x, m, others...)
				checkTable(t, x, plain{id: time})
			}
			unpin(t, x, m, id)
			checkTable(t, x, nil, time)
		}
	}
}

// P13.1, P13.3: a number that went has its new pin's time alone.
func TestAgain(t *testing.T) {
	x, m := holding(t, 4, 5, 6)
	for time := range uint64(200) {
		unpin(t, x, m, 1)
		checkTable(t, x, plain{0: 4, 2: 6}, time)
		pin(t, x, m, time)
		checkTable(t, x, plain{0: 4, 1: time, 2: 6})
	}
}
