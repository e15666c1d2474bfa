package chain

import (
	"math"
	"testing"

	"vulgate/record"
)

// P12.1: what is seen of a chain, written out: ahead of the first version, at each one's time, between two, and behind the newest.
func TestAtWritten(t *testing.T) {
	for _, x := range []struct {
		versions string
		seen     [][2]uint64 // at a time, the version of that time is seen; nothing is, if it is 0
	}{
		{"", [][2]uint64{{0, 0}, {1, 0}, {math.MaxUint64, 0}}},
		{"1", [][2]uint64{{0, 0}, {1, 1}, {2, 1}, {math.MaxUint64, 1}}},
		{"1-", [][2]uint64{{0, 0}, {1, 0}, {2, 0}, {math.MaxUint64, 0}}},
		{"2 5- 7", [][2]uint64{{0, 0}, {1, 0}, {2, 2}, {3, 2}, {4, 2}, {5, 0}, {6, 0}, {7, 7}, {8, 7}, {1 << 63, 7}, {math.MaxUint64, 7}}},
		{"2- 5 7-", [][2]uint64{{0, 0}, {1, 0}, {2, 0}, {3, 0}, {4, 0}, {5, 5}, {6, 5}, {7, 0}, {8, 0}, {math.MaxUint64, 0}}},
		{"3 4 5- 6- 9", [][2]uint64{{2, 0}, {3, 3}, {4, 4}, {5, 0}, {6, 0}, {7, 0}, {8, 0}, {9, 9}, {10, 9}}},
		{"10 20 30 40 50", [][2]uint64{{9, 0}, {10, 10}, {11, 10}, {19, 10}, {20, 20}, {29, 20}, {30, 30}, {39, 30}, {40, 40}, {49, 40}, {50, 50}, {51, 50}}},
		{"5 9223372036854775808 18446744073709551615", [][2]uint64{{0, 0}, {5, 5}, {1<<63 - 1, 5}, {1 << 63, 1 << 63}, {math.MaxUint64 - 1, 1 << 63}, {math.MaxUint64, math.MaxUint64}}},
		{"1 9223372036854775807- 18446744073709551615-", [][2]uint64{{1, 1}, {1<<63 - 2, 1}, {1<<63 - 1, 0}, {1 << 63, 0}, {math.MaxUint64, 0}}},
	} {
		c, m := holding(t, of(x.versions)...)
		for _, s := range x.seen {
			var want record.Rec
			if s[1] > 0 {
				want = recAt(s[1])
			}
			if r, is := c.At(s[0]); r != want || is != (s[1] > 0) {
				t.Errorf("of %s At(%d): %+v, %t, not that of %d", x.versions, s[0], r, is, s[1])
			}
		}
		checkChain(t, c, m)
	}
}

// P12.1: Newest, Live, List and Len, written out: without versions, with one, with many, and where the newest one is dead.
func TestNewestWritten(t *testing.T) {
	for _, x := range []struct {
		versions string
		newest   uint64
		live     bool
		many     int
	}{
		{"", 0, false, 0}, {"1", 1, true, 1}, {"1-", 1, false, 1}, {"7", 7, true, 1}, {"1 2", 2, true, 2}, {"1 2-", 2, false, 2}, {"1- 2", 2, true, 2}, {"1- 2-", 2, false, 2}, {"2 5- 7 8 9- 11", 11, true, 6}, {"2 5- 7 8 9 11-", 11, false, 6}, {"18446744073709551615", math.MaxUint64, true, 1}, {"4 18446744073709551615-", math.MaxUint64, false, 2},
	} {
		c, _ := holding(t, of(x.versions)...)
		if c.Newest() != x.newest || c.Live() != x.live || c.Len() != x.many || text(c.List()) != x.versions {
			t.Errorf("of %s Newest: %d, Live: %t, Len: %d, List: %s", x.versions, c.Newest(), c.Live(), c.Len(), text(c.List()))
		}
	}
}

// each calls f with all rows of versions of times from 1 to most, live or dead.
func each(most uint64, f func(l []Version)) {
	rows := 1
	for range most {
		rows *= 3
	}
	for row := range rows {
		var l []Version
		for at := uint64(1); at <= most; at++ {
			switch row % 3 {
			case 1:
				l = append(l, live(at))
			case 2:
				l = append(l, dead(at))
			}
			row /= 3
		}
		f(l)
	}
}

// P12.1: what is seen of all chains of times from 1 to 7, live and dead, at all times.
func TestAtAll(t *testing.T) {
	rows := 0
	each(7, func(l []Version) {
		c, m := holding(t, l...)
		checkChain(t, c, m, 0, 1, 2, 3, 4, 5, 6, 7, 8, 9)
		rows++
	})
	if rows != 2187 {
		t.Errorf("%d rows", rows)
	}
}

// P12.1: a record that has a time of its own is seen from its version's time on.
func TestAtBranch(t *testing.T) {
	r := record.Rec{Kind: record.Branch, Parent: 2, State: record.Closed, At: 3}
	c, m := holding(t, Version{At: 5, Rec: r}, dead(8), Version{At: 9, Rec: record.Rec{Kind: record.Branch, At: 100}})
	checkChain(t, c, m, 3, 4, 100)
	trim(t, c, &m, 6, 3)
	checkChain(t, c, m, 3, 4, 100)
}

// P2, P12.1: many versions, put one by one and at once, are seen at each time.
func TestAtMany(t *testing.T) {
	var l []Version
	for at := uint64(2); at <= 100000; at += 2 {
		if at%10 == 0 {
			l = append(l, dead(at))
		} else {
			l = append(l, live(at))
		}
	}
	c, _ := holding(t, l...)
	var d Chain
	for _, v := range l {
		d.Put(v)
	}
	for _, x := range []*Chain{c, &d} {
		if x.Len() != 50000 || x.Newest() != 100000 || x.Live() {
			t.Fatalf("Len: %d, Newest: %d, Live: %t", x.Len(), x.Newest(), x.Live())
		}
		for time := range uint64(100010) {
			at := min(time/2*2, 100000)
			want, there := recAt(at), at > 0 && at%10 > 0
			if !there {
				want = record.Rec{}
			}
			if r, is := x.At(time); r != want || is != there {
				t.Fatalf("At(%d): %+v, %t", time, r, is)
			}
		}
	}
}
