package chain

import (
	"math"
	"slices"
	"testing"
)

// P12.2: chains trimmed by pins, written out: none, one, several, the same twice, ahead of all versions, at a version's time, between two, behind the newest.
func TestTrimWritten(t *testing.T) {
	for _, x := range []struct {
		versions string
		pins     []uint64
		left     string
	}{
		{"", nil, ""}, {"", []uint64{0, 5}, ""},
		{"2", nil, "2"}, {"2", []uint64{0}, "2"}, {"2", []uint64{1, 2, 3}, "2"},
		{"2-", nil, ""}, {"2-", []uint64{0}, "2-"}, {"2-", []uint64{1}, "2-"}, {"2-", []uint64{2}, ""}, {"2-", []uint64{3}, ""}, {"2-", []uint64{3, 1}, "2-"}, {"2-", []uint64{2, 2, 9}, ""},
		{"2 5- 7", nil, "7"}, {"2 5- 7", []uint64{3}, "2 7"}, {"2 5- 7", []uint64{0}, "7"}, {"2 5- 7", []uint64{1}, "7"}, {"2 5- 7", []uint64{2}, "2 7"}, {"2 5- 7", []uint64{4}, "2 7"}, {"2 5- 7", []uint64{5}, "7"}, {"2 5- 7", []uint64{6}, "7"}, {"2 5- 7", []uint64{7}, "7"}, {"2 5- 7", []uint64{8, 99}, "7"},
		{"2 5- 7", []uint64{1, 5}, "5- 7"}, {"2 5- 7", []uint64{6, 0}, "5- 7"}, {"2 5- 7", []uint64{3, 5}, "2 5- 7"}, {"2 5- 7", []uint64{6, 2, 6, 2}, "2 5- 7"}, {"2 5- 7", []uint64{6, 6, 6}, "7"},
		{"2 5-", []uint64{5}, ""}, {"2 5-", []uint64{1}, "5-"}, {"2 5-", nil, ""}, {"2 5-", []uint64{9}, ""}, {"2 5-", []uint64{3}, "2 5-"}, {"2 5-", []uint64{2, 9}, "2 5-"}, {"2 5-", []uint64{4, 4}, "2 5-"}, {"2 5-", []uint64{0}, "5-"},
		{"2- 5- 7-", nil, ""}, {"2- 5- 7-", []uint64{2}, "7-"}, {"2- 5- 7-", []uint64{5}, "7-"}, {"2- 5- 7-", []uint64{7}, ""}, {"2- 5- 7-", []uint64{2, 5}, "5- 7-"}, {"2- 5- 7-", []uint64{1, 3, 6}, "2- 5- 7-"}, {"2- 5- 7-", []uint64{1}, "7-"}, {"2- 5- 7-", []uint64{4, 8}, "7-"}, {"2- 5- 7-", []uint64{6, 8}, "7-"},
		{"2- 5- 7", []uint64{2, 5}, "5- 7"}, {"2- 5- 7", []uint64{4, 7}, "7"}, {"2- 3- 5 7", []uint64{2, 3, 5}, "3- 5 7"}, {"2- 3 5 7", []uint64{2, 5}, "5 7"}, {"2- 3 5 7", []uint64{1, 2, 5}, "2- 5 7"},
		{"1 2 3 4 5", []uint64{2, 4}, "2 4 5"}, {"1 2 3 4 5", []uint64{4, 2, 4, 2}, "2 4 5"}, {"1 2 3 4 5", []uint64{5, 4, 3, 2, 1}, "1 2 3 4 5"}, {"1 2 3 4 5", []uint64{0, 9}, "5"}, {"1 2- 3 4- 5", []uint64{3}, "3 5"}, {"1 2- 3 4- 5", []uint64{2, 4}, "4- 5"}, {"1 2- 3 4- 5", []uint64{1, 2, 4}, "1 2- 4- 5"},
		{"10 20 30", []uint64{15, 11, 19, 10}, "10 30"}, {"10 20 30", []uint64{29, 30}, "20 30"}, {"10 20- 30-", []uint64{25, 12}, "10 20- 30-"}, {"10 20- 30-", []uint64{25}, "30-"},
	} {
		c, m := holding(t, of(x.versions)...)
		many := c.Trim(x.pins...)
		if text(c.List()) != x.left || many != len(m)-len(of(x.left)) {
			t.Errorf("Trim of %s by %d: %d, left %s, not %s", x.versions, x.pins, many, text(c.List()), x.left)
		}
		checkChain(t, c, of(x.left), around(m)...)
	}
}

// P12.2: times and pins that are the greatest, and those about half as great.
func TestTrimGreat(t *testing.T) {
	times := []uint64{1, 1<<63 - 1, 1 << 63, math.MaxUint64 - 1, math.MaxUint64}
	each(5, func(l []Version) {
		for i := range l {
			l[i].At = times[l[i].At-1]
		}
		for _, first := range append(times, 0) {
			for _, second := range append(times, 0, 1<<63-2, 1<<63+1, math.MaxUint64-2) {
				c, m := holding(t, l...)
				trim(t, c, &m, second, first)
				checkChain(t, c, m, times...)
			}
		}
	})
}

// checkFollows holds a chain that was trimmed by pins against what it was: what P12.3 says follows.
func checkFollows(t *testing.T, ahead, c *Chain, pins []uint64, most uint64) {
	t.Helper()
	newest := ahead.Newest()
	times := slices.Clone(pins)
	for time := newest; time <= most; time++ {
		times = append(times, time)
	}
	for _, time := range append(times, math.MaxUint64) {
		was, wasThere := ahead.At(time)
		if r, is := c.At(time); r != was || is != wasThere {
			t.Errorf("%s trimmed by %d: at %d %+v is seen, not %+v", text(ahead.List()), pins, time, r, was)
		}
	}
	unlike := map[uint64]struct{}{}
	for _, pin := range pins {
		unlike[pin] = struct{}{}
		if (newest > pin) != (c.Newest() > pin) {
			t.Errorf("%s trimmed by %d: the newest time is %d", text(ahead.List()), pins, c.Newest())
		}
	}
	if c.Len() > len(unlike)+1 || len(pins) == 0 && !ahead.Live() && c.Len() > 0 {
		t.Errorf("%s trimmed by %d: %d left", text(ahead.List()), pins, c.Len())
	}
	left := text(c.List())
	if many := c.Trim(pins...); many != 0 || text(c.List()) != left {
		t.Errorf("%s trimmed by %d, and again: %d, %s", left, pins, many, text(c.List()))
	}
	if c.Live() != ahead.Live() {
		t.Errorf("%s trimmed by %d: Live is %t", text(ahead.List()), pins, c.Live())
	}
}

// P12.2, P12.3: all chains of times from 1 to 5, live and dead, trimmed by all sets of pins from 0 to 7.
func TestTrimAll(t *testing.T) {
	each(5, func(l []Version) {
		ahead, _ := holding(t, l...)
		for set := range 256 {
			var pins []uint64
			for pin := range uint64(8) {
				if set>>pin&1 == 1 {
					pins = append(pins, pin)
				}
			}
			if set%2 == 0 {
				slices.Reverse(pins)
			}
			c, m := holding(t, l...)
			trim(t, c, &m, pins...)
			if !slices.Equal(c.List(), m) {
				t.Errorf("Trim of %s by %d left %s, not %s", text(l), pins, text(c.List()), text(m))
			}
			checkFollows(t, ahead, c, pins, 8)
		}
	})
}

// P12.2: pins in all orders, and some of them twice, make the same chain.
func TestTrimOrder(t *testing.T) {
	pins := []uint64{1, 3, 6, 9}
	for _, versions := range []string{"2 3- 4 7", "2- 3 8-", "4 5 6-", "1 3 6 9", "3- 6- 9-", "10", "10-"} {
		once, _ := holding(t, of(versions)...)
		want := once.Trim(pins...)
		for row := range 256 {
			l := []uint64{pins[row&3], pins[row>>2&3], pins[row>>4&3], pins[row>>6&3]}
			for _, behind := range [][]uint64{l, append(pins, l...), append(l, pins...)} {
				c, m := holding(t, of(versions)...)
				ahead, _ := holding(t, of(versions)...)
				trim(t, c, &m, behind...)
				checkFollows(t, ahead, c, behind, 12)
				checkChain(t, c, m, pins...)
				if len(behind) > 4 && (!slices.Equal(m, once.List()) || len(of(versions))-len(m) != want) {
					t.Errorf("%s trimmed by %d: %s", versions, behind, text(m))
				}
			}
		}
	}
}

// P12.2: the pins that are handed in stay as they were, and so does their spare room; they aren't kept.
func TestTrimPinsKept(t *testing.T) {
	room := []uint64{9, 3, 6, 3, 77, 78, 79}
	c, m := holding(t, of("2 3- 4 5 7 8")...)
	trim(t, c, &m, room[:4]...)
	if !slices.Equal(room, []uint64{9, 3, 6, 3, 77, 78, 79}) {
		t.Errorf("Trim made %d of the pins", room)
	}
	checkChain(t, c, of("5 8"))
	clear(room)
	put(t, c, &m, live(9))
	trim(t, c, &m, 7)
	checkChain(t, c, of("5 9"))
}

// P12.1, P12.2: Put behind a Trim that left nothing: a first version's time is above 0 again, and what was is not seen.
func TestPutBehindTrim(t *testing.T) {
	for _, versions := range []string{"5-", "2 5-", "1- 2 3- 5-", "18446744073709551615-"} {
		c, m := holding(t, of(versions)...)
		trim(t, c, &m)
		checkChain(t, c, nil, around(of(versions))...)
		put(t, c, &m, live(0))
		put(t, c, &m, dead(0))
		checkChain(t, c, nil)
		put(t, c, &m, of("1 2-")...)
		checkChain(t, c, of("1 2-"), around(of(versions))...)
		trim(t, c, &m)
		put(t, c, &m, live(1))
		checkChain(t, c, of("1"))
	}
}

// P2, P12.2, P12.3: a long chain trimmed by many pins, in two orders, twice.
func TestTrimMany(t *testing.T) {
	var l, left []Version
	var pins []uint64
	for at := uint64(3); at <= 300000; at += 3 {
		v := live(at)
		if at%7 == 0 {
			v = dead(at)
		}
		l = append(l, v)
		if at%6 == 0 {
			pins = append(pins, at+2, at+1, at+1)
			left = append(left, v)
		}
	}
	for range 2 {
		c, _ := holding(t, l...)
		if many := c.Trim(pins...); many != len(l)-len(left) || !slices.Equal(c.List(), left) {
			t.Fatalf("%d went, %d are left, not %d", many, c.Len(), len(left))
		}
		slices.Reverse(pins)
		if many := c.Trim(pins...); many != 0 || c.Len() != len(left) {
			t.Fatalf("%d went, %d are left", many, c.Len())
		}
		if many := c.Trim(); many != len(left)-1 || !slices.Equal(c.List(), of("300000")) {
			t.Fatalf("%d went, %s are left", many, text(c.List()))
		}
	}
}
