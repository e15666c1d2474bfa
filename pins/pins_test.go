package pins

import (
	"math"
	"slices"
	"testing"

	"vulgate/api"
)

// plain is what a table must hold, by the chapter's words: pins' times by their numbers.
type plain map[int]uint64

// pin: what Pin must do and tell.
func (m plain) pin(time uint64) (int, api.Errno) {
	for id := range 64 {
		if _, there := m[id]; !there {
			m[id] = time
			return id, api.OK
		}
	}
	return 0, api.ErrFull
}

// unpin: what Unpin must do and tell.
func (m plain) unpin(l []int) int {
	was := len(m)
	for _, id := range l {
		delete(m, id)
	}
	return was - len(m)
}

// times: what Times must tell.
func (m plain) times() []uint64 {
	var l []uint64
	for _, time := range m {
		l = append(l, time)
	}
	slices.Sort(l)
	return slices.Compact(l)
}

// count: what Count must tell.
func (m plain) count(time uint64) int {
	many := 0
	for _, at := range m {
		if at == time {
			many++
		}
	}
	return many
}

// below: what Below must tell.
func (m plain) below(time uint64) bool {
	for _, at := range m {
		if at < time {
			return true
		}
	}
	return false
}

// numbers are all that pins may have, and others around and far from these.
func numbers() []int {
	l := []int{math.MinInt, math.MinInt + 1, math.MinInt + 63, -1 << 32, -1<<32 + 1, -65, -64, -63, -2, -1, 64, 65, 127, 128, 255, 256, 1 << 31, 1 << 32, 1<<32 + 1, 1<<62 + 1, math.MaxInt - 63, math.MaxInt - 1, math.MaxInt}
	for id := range 64 {
		l = append(l, id)
	}
	return l
}

// around are the times of pins, one ahead of each and one behind it, others, and times far from each other.
func around(m plain, others ...uint64) []uint64 {
	l := append([]uint64{0, 1, 2, 63, 64, 1 << 32, 1<<63 - 1, 1 << 63, 1<<63 + 1, math.MaxUint64 - 1, math.MaxUint64}, others...)
	for _, time := range m {
		l = append(l, time-1, time, time+1)
	}
	return l
}

// checkTable holds all that is told of a table against what it must be.
func checkTable(t *testing.T, x *Table, m plain, others ...uint64) {
	t.Helper()
	for _, id := range numbers() {
		want, there := m[id]
		if at, is := x.At(id); at != want || is != there {
			t.Errorf("of %d At(%d): %d, %t, not %d, %t", m, id, at, is, want, there)
		}
	}
	times := m.times()
	if l := x.Times(); !slices.Equal(l, times) {
		t.Errorf("Times: %d, not %d", l, times)
	}
	for _, time := range around(m, others...) {
		if many, is := x.Count(time), x.Below(time); many != m.count(time) || is != m.below(time) {
			t.Errorf("of %d Count(%d): %d, Below: %t, not %d, %t", m, time, many, is, m.count(time), m.below(time))
		}
	}
	var oldest uint64
	if len(times) > 0 {
		oldest = times[0]
	}
	if at, is := x.Oldest(); at != oldest || is != (len(times) > 0) {
		t.Errorf("of %d Oldest: %d, %t", m, at, is)
	}
	if x.Len() != len(m) {
		t.Errorf("of %d Len: %d", m, x.Len())
	}
}

// pin puts pins into a table and into what it must hold.
func pin(t *testing.T, x *Table, m plain, l ...uint64) {
	t.Helper()
	for _, time := range l {
		want, wantErr := m.pin(time)
		if id, err := x.Pin(time); id != want || err != wantErr {
			t.Errorf("Pin(%d): %d, %d, not %d, %d, then %d", time, id, err, want, wantErr, m)
		}
	}
}

// unpin takes pins out of a table and out of what it must hold, and holds the numbers against what they were.
func unpin(t *testing.T, x *Table, m plain, l ...int) {
	t.Helper()
	was := slices.Clone(l)
	want := m.unpin(l)
	if many := x.Unpin(l...); many != want {
		t.Errorf("Unpin of %d: %d, not %d, left %d", was, many, want, m)
	}
	if !slices.Equal(l, was) {
		t.Errorf("Unpin made %d of %d", l, was)
	}
}

// holding is a table of pins at times, and what it must hold.
func holding(t *testing.T, l ...uint64) (*Table, plain) {
	t.Helper()
	x, m := &Table{}, plain{}
	pin(t, x, m, l...)
	return x, m
}

// many are so many times, each another one, in no order.
func many(n int) []uint64 {
	var l []uint64
	for i := range n {
		l = append(l, uint64(i*37%101+5))
	}
	return l
}

// chance tells numbers that look like chance, the same in each run.
type chance uint64

// below: a number below one that is above 0.
func (c *chance) below(n int) int {
	*c = *c*6364136223846793005 + 1442695040888963407
	return int(uint64(*c) >> 33 % uint64(n))
}

// P1, P13.1, P13.2, P13.3: a nil table.
func TestNil(t *testing.T) {
	var x *Table
	for _, time := range []uint64{0, 1, 7, 1 << 63, math.MaxUint64} {
		if id, err := x.Pin(time); id != 0 || err != api.ErrState {
			t.Errorf("Pin(%d): %d, %d", time, id, err)
		}
		checkTable(t, x, nil, time)
	}
	for _, l := range [][]int{nil, {}, {0}, {63}, {0, 1, 2}, {0, 0}, {-1, 64}, numbers()} {
		if many := x.Unpin(l...); many != 0 {
			t.Errorf("Unpin of %d: %d", l, many)
		}
		checkTable(t, x, nil)
	}
}

// P13.1, P13.2: the zero table has no pins, and may be used.
func TestZero(t *testing.T) {
	var x Table
	checkTable(t, &x, nil)
	for _, l := range [][]int{nil, {}, {0}, {63}, {0, 1, 2}, {0, 0}, {-1, 64}, numbers()} {
		if many := x.Unpin(l...); many != 0 {
			t.Errorf("Unpin of %d: %d", l, many)
		}
		checkTable(t, &x, nil)
	}
	m := plain{}
	pin(t, &x, m, 7)
	checkTable(t, &x, plain{0: 7})
	checkTable(t, &Table{}, nil)
	y := new(Table)
	checkTable(t, y, nil)
	pin(t, y, plain{}, 9)
	checkTable(t, y, plain{0: 9})
	checkTable(t, &x, plain{0: 7})
}

// P13.1, P13.2: the chapter's example.
func TestExample(t *testing.T) {
	var x Table
	for i, time := range []uint64{7, 3, 7} {
		if id, err := x.Pin(time); id != i || err != api.OK {
			t.Errorf("Pin(%d): %d, %d", time, id, err)
		}
	}
	if l := x.Times(); !slices.Equal(l, []uint64{3, 7}) {
		t.Errorf("Times: %d", l)
	}
	if many := x.Unpin(0); many != 1 {
		t.Errorf("Unpin(0): %d", many)
	}
	if id, err := x.Pin(9); id != 0 || err != api.OK {
		t.Errorf("Pin(9): %d, %d", id, err)
	}
	if many := x.Count(7); many != 1 {
		t.Errorf("Count(7): %d", many)
	}
	checkTable(t, &x, plain{0: 9, 1: 3, 2: 7})
}
