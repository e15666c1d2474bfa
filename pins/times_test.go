package pins

import (
	"math"
	"slices"
	"testing"

	"vulgate/api"
)

// P13.2: Times, whatever the order of the numbers is.
func TestTimes(t *testing.T) {
	for _, row := range []struct{ times, want []uint64 }{
		{nil, nil},
		{[]uint64{0}, []uint64{0}},
		{[]uint64{5}, []uint64{5}},
		{[]uint64{math.MaxUint64}, []uint64{math.MaxUint64}},
		{[]uint64{5, 5}, []uint64{5}},
		{[]uint64{0, 0, 0}, []uint64{0}},
		{[]uint64{3, 7}, []uint64{3, 7}},
		{[]uint64{7, 3}, []uint64{3, 7}},
		{[]uint64{7, 3, 7}, []uint64{3, 7}},
		{[]uint64{3, 7, 3, 7, 7}, []uint64{3, 7}},
		{[]uint64{1, 2, 3, 4}, []uint64{1, 2, 3, 4}},
		{[]uint64{4, 3, 2, 1}, []uint64{1, 2, 3, 4}},
		{[]uint64{2, 4, 1, 3}, []uint64{1, 2, 3, 4}},
		{[]uint64{10, 9, 100, 90}, []uint64{9, 10, 90, 100}},
		{[]uint64{256, 1, 65536, 255}, []uint64{1, 255, 256, 65536}},
		{[]uint64{math.MaxUint64, 1<<63 - 1, 0, 1 << 63, 1}, []uint64{0, 1, 1<<63 - 1, 1 << 63, math.MaxUint64}},
		{[]uint64{math.MaxUint64, math.MaxUint64 - 1, math.MaxUint64}, []uint64{math.MaxUint64 - 1, math.MaxUint64}},
	} {
		x, m := holding(t, row.times...)
		if l := x.Times(); !slices.Equal(l, row.want) {
			t.Errorf("Times of %d: %d, not %d", row.times, l, row.want)
		}
		checkTable(t, x, m)
	}
}

// P13.2: Times, Oldest and Below of all orders of five times, two of which are the same.
func TestTimesOrders(t *testing.T) {
	for n := range 5 * 5 * 5 * 5 {
		times := []uint64{uint64(n % 5), uint64(n / 5 % 5), uint64(n / 25 % 5), uint64(n / 125), 2}
		x, m := holding(t, times...)
		checkTable(t, x, m)
		for id := range times {
			unpin(t, x, m, id)
			checkTable(t, x, m)
			pin(t, x, m, times[id])
		}
	}
}

// P13.2: Count of times without pins, with one, with several, and of those that have fewer behind Unpin.
func TestCount(t *testing.T) {
	x, m := holding(t, 7, 3, 7, 0, math.MaxUint64, 7, 0)
	counts := func(want map[uint64]int) {
		t.Helper()
		for time, many := range want {
			if got := x.Count(time); got != many {
				t.Errorf("of %d Count(%d): %d, not %d", m, time, got, many)
			}
		}
		checkTable(t, x, m)
	}
	counts(map[uint64]int{0: 2, 1: 0, 2: 0, 3: 1, 4: 0, 6: 0, 7: 3, 8: 0, math.MaxUint64: 1, math.MaxUint64 - 1: 0})
	unpin(t, x, m, 2)
	counts(map[uint64]int{0: 2, 3: 1, 7: 2, math.MaxUint64: 1})
	unpin(t, x, m, 0, 5, 5)
	counts(map[uint64]int{0: 2, 3: 1, 7: 0, math.MaxUint64: 1})
	unpin(t, x, m, 3, 4, 1)
	counts(map[uint64]int{0: 1, 3: 0, 7: 0, math.MaxUint64: 0})
	pin(t, x, m, 7, 7)
	counts(map[uint64]int{0: 1, 3: 0, 7: 2, math.MaxUint64: 0})
	unpin(t, x, m, 6)
	counts(map[uint64]int{0: 0, 3: 0, 7: 2, math.MaxUint64: 0})
	full, all := holding(t, slices.Repeat([]uint64{9}, 64)...)
	if many := full.Count(9); many != 64 {
		t.Errorf("Count(9) of 64 there: %d", many)
	}
	for id := range 64 {
		unpin(t, full, all, id)
		if many := full.Count(9); many != 63-id || full.Len() != 63-id {
			t.Errorf("Count(9) behind Unpin(%d): %d", id, many)
		}
	}
	checkTable(t, full, nil, 9)
}

// P13.2: Oldest and Below while the oldest goes again and again.
func TestOldest(t *testing.T) {
	var x Table
	m := plain{}
	oldest := func(want uint64, there bool) {
		t.Helper()
		if at, is := x.Oldest(); at != want || is != there {
			t.Errorf("of %d Oldest: %d, %t, not %d, %t", m, at, is, want, there)
		}
		checkTable(t, &x, m)
	}
	oldest(0, false)
	pin(t, &x, m, math.MaxUint64)
	oldest(math.MaxUint64, true)
	pin(t, &x, m, 9)
	oldest(9, true)
	pin(t, &x, m, 12, 9, 5)
	oldest(5, true)
	unpin(t, &x, m, 4)
	oldest(9, true)
	unpin(t, &x, m, 1)
	oldest(9, true)
	unpin(t, &x, m, 3)
	oldest(12, true)
	pin(t, &x, m, 0)
	oldest(0, true)
	unpin(t, &x, m, 1)
	oldest(12, true)
	unpin(t, &x, m, 2)
	oldest(math.MaxUint64, true)
	unpin(t, &x, m, 0)
	oldest(0, false)
}

// P13.2: Below at the least time, around it, and at the bounds.
func TestBelow(t *testing.T) {
	for _, row := range []struct {
		times []uint64
		below []uint64
		not   []uint64
	}{
		{nil, nil, []uint64{0, 1, 5, 1 << 63, math.MaxUint64}},
		{[]uint64{0}, []uint64{1, 2, 1 << 63, math.MaxUint64}, []uint64{0}},
		{[]uint64{5}, []uint64{6, 7, math.MaxUint64}, []uint64{0, 1, 4, 5}},
		{[]uint64{9, 5, 7}, []uint64{6, 7, 8, 9, 10, math.MaxUint64}, []uint64{0, 1, 4, 5}},
		{[]uint64{5, 5, 9}, []uint64{6, 9, math.MaxUint64}, []uint64{0, 4, 5}},
		{[]uint64{1 << 63}, []uint64{1<<63 + 1, math.MaxUint64}, []uint64{0, 1, 1<<63 - 1, 1 << 63}},
		{[]uint64{math.MaxUint64 - 1}, []uint64{math.MaxUint64}, []uint64{0, 1 << 63, math.MaxUint64 - 1}},
		{[]uint64{math.MaxUint64}, nil, []uint64{0, 1, 1 << 63, math.MaxUint64}},
		{[]uint64{math.MaxUint64, 0}, []uint64{1, math.MaxUint64}, []uint64{0}},
	} {
		x, m := holding(t, row.times...)
		for _, time := range row.below {
			if !x.Below(time) {
				t.Errorf("of %d Below(%d): false", row.times, time)
			}
		}
		for _, time := range row.not {
			if x.Below(time) {
				t.Errorf("of %d Below(%d): true", row.times, time)
			}
		}
		checkTable(t, x, m)
	}
}

// P13.1, P13.2, P13.3: lists that were handed in or out, and their spare room, are written into, and the table stays as it was.
func TestMemory(t *testing.T) {
	x, m := holding(t, 7, 3, 7, 9, 1)
	for range 3 {
		l, other := x.Times(), x.Times()
		for i := range l {
			l[i] = 999
		}
		for i := range l[:cap(l)] {
			l[:cap(l)][i] = 998
		}
		if !slices.Equal(other, []uint64{1, 3, 7, 9}) {
			t.Errorf("Times handed out: %d", other)
		}
		checkTable(t, x, m, 998, 999)
	}
	room := []int{0, 64, 0, 4, 1, 2, 3, 3}
	unpin(t, x, m, room[:3]...)
	if !slices.Equal(room, []int{0, 64, 0, 4, 1, 2, 3, 3}) {
		t.Errorf("Unpin's list and its room: %d", room)
	}
	for i := range room {
		room[i] = 3
	}
	checkTable(t, x, plain{1: 3, 2: 7, 3: 9, 4: 1})
	l := x.Times()
	pin(t, x, m, 2)
	unpin(t, x, m, 1, 2, 3, 4)
	if !slices.Equal(l, []uint64{1, 3, 7, 9}) {
		t.Errorf("Times that were handed out: %d", l)
	}
	checkTable(t, x, plain{0: 2})
}

// P13.1, P13.2, P13.3: rows of Pin and Unpin made by chance, against what the table must hold.
func TestRows(t *testing.T) {
	var c chance
	pinned, full, unpinned, emptied := 0, 0, 0, 0
	for row := range 300 {
		var x Table
		m := plain{}
		for range 60 {
			was := len(m)
			if c.below(3) > 0 {
				for range 1 + c.below(1+row%12) {
					time := uint64(c.below(1 + row%40))
					if c.below(20) == 0 {
						time = -time
					}
					if len(m) == 64 {
						full++
					}
					pin(t, &x, m, time)
				}
				pinned += len(m) - was
			} else {
				var l []int
				for range c.below(2 + row%20) {
					l = append(l, c.below(80)-8)
				}
				if c.below(30) == 0 {
					l = numbers()
				}
				unpin(t, &x, m, l...)
				unpinned += was - len(m)
				if was > 0 && len(m) == 0 {
					emptied++
				}
			}
			checkTable(t, &x, m)
		}
	}
	if pinned < 20000 || full < 2000 || unpinned < 10000 || emptied < 150 {
		t.Errorf("%d pinned, %d at full tables, %d unpinned, %d times emptied", pinned, full, unpinned, emptied)
	}
}

// P13.1, P13.2: all rows of eight calls, each Pin at one of two times or Unpin of one of two numbers.
func TestAllRows(t *testing.T) {
	for n := range 1 << 16 {
		var x Table
		m := plain{}
		for call := range 8 {
			what := n >> (2 * call) & 3
			switch what {
			case 0:
				pin(t, &x, m, 4)
			case 1:
				pin(t, &x, m, 2)
			default:
				unpin(t, &x, m, what-2)
			}
		}
		times := m.times()
		at, is := x.Oldest()
		if !slices.Equal(x.Times(), times) || x.Len() != len(m) || x.Count(4) != m.count(4) || x.Count(2) != m.count(2) || is != (len(m) > 0) || is && at != times[0] || x.Below(4) != m.below(4) {
			t.Errorf("row %x: %d, not %d", n, x.Times(), m)
		}
	}
}

// P2: the same calls on other tables, and again on the same one, have the same answers.
func TestSame(t *testing.T) {
	var tables [20]Table
	for i := range tables {
		for _, time := range many(64) {
			tables[i].Pin(time)
		}
		tables[i].Unpin(3, 50, 12)
	}
	first := tables[0].Times()
	oldest, _ := tables[0].Oldest()
	for i := range tables {
		for range 20 {
			at, is := tables[i].Oldest()
			if l := tables[i].Times(); !slices.Equal(l, first) || at != oldest || !is {
				t.Errorf("table %d: %d, %d", i, l, at)
			}
		}
	}
}

// P1, P13.1: many numbers at once, and many calls.
func TestLarge(t *testing.T) {
	x, m := holding(t, many(64)...)
	var l []int
	for i := range 1 << 20 {
		l = append(l, i-1<<19)
	}
	unpin(t, x, m, append(l, l...)...)
	checkTable(t, x, nil)
	for time := range uint64(1 << 18) {
		id, err := x.Pin(time)
		if id != 0 || err != api.OK || x.Unpin(id) != 1 {
			t.Fatalf("Pin(%d): %d, %d", time, id, err)
		}
	}
	checkTable(t, x, nil)
}
