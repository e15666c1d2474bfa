package chain

import (
	"math"
	"slices"
	"testing"

	"vulgate/api"
	"vulgate/record"
)

// checkPut puts versions behind others, and holds what is told against what it must be, of the error and of the chain.
func checkPut(t *testing.T, ahead, l []Version, want int, wantErr api.Errno) {
	t.Helper()
	c, _ := holding(t, ahead...)
	was := slices.Clone(l)
	if many, err := c.Put(l...); many != want || err != wantErr {
		t.Errorf("Put of %s behind %s: %d, %d, not %d, %d", text(was), text(ahead), many, err, want, wantErr)
	}
	if !slices.Equal(l, was) {
		t.Errorf("Put made %s of %s", text(l), text(was))
	}
	checkChain(t, c, slices.Concat(ahead, was[:want]), around(was)...)
}

// P12.1: no versions, one, and several, live and dead ones, behind none and behind others.
func TestPut(t *testing.T) {
	for _, ahead := range []string{"", "1", "1-", "1 2", "1- 2-", "3", "2 4- 5"} {
		checkPut(t, of(ahead), nil, 0, api.OK)
		checkPut(t, of(ahead), []Version{}, 0, api.OK)
		for _, l := range []string{"6", "6-", "6 7", "6- 7-", "6 7- 8", "6- 7 8-", "6 9 100 101- 18446744073709551615"} {
			checkPut(t, of(ahead), of(l), len(of(l)), api.OK)
		}
	}
}

// P12.1: right records of each kind, alone, all behind one another, and one several times.
func TestPutRecords(t *testing.T) {
	var all, same []Version
	for i, r := range rights() {
		v := Version{At: uint64(3*i + 1), Rec: r}
		checkPut(t, nil, []Version{v}, 1, api.OK)
		checkPut(t, nil, []Version{v, {At: v.At + 1, Rec: r}, dead(v.At + 2)}, 3, api.OK)
		all = append(all, v)
		same = append(same, Version{At: v.At, Rec: rights()[0]})
	}
	checkPut(t, nil, all, len(all), api.OK)
	checkPut(t, nil, same, len(same), api.OK)
	checkPut(t, all, []Version{{At: 1000, Rec: all[len(all)-1].Rec}}, 1, api.OK)
}

// P12.1: a dead version with a record, right or not, whole or of one field alone, and one without.
func TestPutDead(t *testing.T) {
	l := append(rights(), record.Rec{Kind: 1}, record.Rec{Kind: 255}, record.Rec{State: 1}, record.Rec{User: 1}, record.Rec{Parent: 1}, record.Rec{Mask: 1}, record.Rec{Gone: true}, record.Rec{Rev: 1}, record.Rec{At: 1}, record.Rec{Text: "a"}, record.Rec{Text: "\x00"})
	for _, w := range wrongs()[1:] {
		l = append(l, w.r)
	}
	for _, r := range l {
		for _, ahead := range []string{"", "1", "1-", "2 3-"} {
			for _, at := range []uint64{4, math.MaxUint64} {
				checkPut(t, of(ahead), []Version{{At: at, Dead: true, Rec: r}}, 0, api.ErrForm)
				checkPut(t, of(ahead), []Version{{At: at, Dead: true}}, 1, api.OK)
			}
		}
	}
}

// P12.1: records that aren't right, with each error that Check tells.
func TestPutWrong(t *testing.T) {
	for _, w := range wrongs() {
		for _, ahead := range []string{"", "1", "1-", "2 3-"} {
			checkPut(t, of(ahead), []Version{{At: 4, Rec: w.r}}, 0, w.err)
			checkPut(t, of(ahead), []Version{{At: math.MaxUint64, Rec: w.r}}, 0, w.err)
		}
	}
}

// P12.1: times at, below and above the newest one's, live or dead, and those of a first version.
func TestPutTimes(t *testing.T) {
	for _, x := range []struct {
		ahead    string
		old, new []uint64
	}{
		{"", []uint64{0}, []uint64{1, 2, 1 << 32, 1 << 63, math.MaxUint64 - 1, math.MaxUint64}},
		{"1", []uint64{0, 1}, []uint64{2, 3, 1 << 63, math.MaxUint64}},
		{"1-", []uint64{0, 1}, []uint64{2, 3, 1 << 63, math.MaxUint64}},
		{"2 5- 7", []uint64{0, 1, 2, 3, 4, 5, 6, 7}, []uint64{8, 9, math.MaxUint64}},
		{"2 5 7-", []uint64{0, 1, 2, 3, 4, 5, 6, 7}, []uint64{8, 9, math.MaxUint64}},
		{"9223372036854775807", []uint64{0, 1, 1<<63 - 2, 1<<63 - 1}, []uint64{1 << 63, math.MaxUint64}},
		{"9223372036854775808-", []uint64{0, 1, 1<<63 - 1, 1 << 63}, []uint64{1<<63 + 1, math.MaxUint64}},
		{"4294967296", []uint64{0, 1, 1<<32 - 1, 1 << 32}, []uint64{1<<32 + 1, 1 << 33}},
		{"18446744073709551614", []uint64{0, 1 << 63, math.MaxUint64 - 2, math.MaxUint64 - 1}, []uint64{math.MaxUint64}},
		{"18446744073709551615", []uint64{0, 1, 1 << 63, math.MaxUint64 - 1, math.MaxUint64}, nil},
		{"3 18446744073709551615-", []uint64{0, 1, 4, 1 << 63, math.MaxUint64 - 1, math.MaxUint64}, nil},
	} {
		for _, at := range x.old {
			checkPut(t, of(x.ahead), []Version{live(at)}, 0, api.ErrOld)
			checkPut(t, of(x.ahead), []Version{dead(at)}, 0, api.ErrOld)
		}
		for _, at := range x.new {
			checkPut(t, of(x.ahead), []Version{live(at)}, 1, api.OK)
			checkPut(t, of(x.ahead), []Version{dead(at)}, 1, api.OK)
		}
	}
}

// faulty is a version that can't be put at a place of a row whose versions have the times from 11 on, and its error.
type faulty struct {
	v   Version
	err api.Errno
}

// faults are versions that can't be put behind one of a time, each error among them.
func faults(newest uint64) []faulty {
	l := []faulty{{Version{At: newest + 1, Dead: true, Rec: recAt(1)}, api.ErrForm}, {live(newest), api.ErrOld}, {dead(newest), api.ErrOld}, {live(newest - 1), api.ErrOld}, {dead(0), api.ErrOld}}
	for _, w := range wrongs() {
		l = append(l, faulty{Version{At: newest + 1, Rec: w.r}, w.err})
	}
	return l
}

// P12.1: several versions, of which the first one, one in the middle, the last one, or several have an error: those ahead of it are put, those behind it aren't.
func TestPutFirstError(t *testing.T) {
	l := of("11 12- 13 14 15-")
	for at := range l {
		newest := uint64(10 + at)
		for _, f := range faults(newest) {
			row := slices.Clone(l)
			row[at] = f.v
			checkPut(t, of("4 10-"), row, at, f.err)
			checkPut(t, of("4 10"), row, at, f.err)
			checkPut(t, of("10"), row[:at+1], at, f.err)
			for _, other := range faults(15) {
				checkPut(t, of("4 10-"), append(slices.Clone(row), other.v), at, f.err)
			}
		}
	}
	checkPut(t, nil, of("0 1 2"), 0, api.ErrOld)
	checkPut(t, nil, of("1 1 2"), 1, api.ErrOld)
	checkPut(t, nil, of("2- 1 3"), 1, api.ErrOld)
	checkPut(t, nil, of("1 3 2 4"), 2, api.ErrOld)
	checkPut(t, nil, of("1 2 3 3-"), 3, api.ErrOld)
	checkPut(t, of("5"), of("6 7 8 5 9"), 3, api.ErrOld)
}

// P12.1: of a version with two errors the one that the chapter names first.
func TestPutOrder(t *testing.T) {
	for _, ahead := range []string{"", "1-", "2 5"} {
		for _, at := range []uint64{0, uint64(len(ahead)), 6} {
			for _, w := range wrongs() {
				checkPut(t, of(ahead), []Version{{At: at, Rec: w.r}}, 0, w.err)
				if w.r != (record.Rec{}) {
					checkPut(t, of(ahead), []Version{{At: at, Dead: true, Rec: w.r}}, 0, api.ErrForm)
				}
			}
			for _, r := range rights() {
				checkPut(t, of(ahead), []Version{{At: at, Dead: true, Rec: r}}, 0, api.ErrForm)
			}
		}
	}
	checkPut(t, of("2 5"), []Version{{At: 5, Rec: record.Rec{Kind: record.Locale, Text: "a"}}}, 0, api.ErrForm)
	checkPut(t, of("2 5"), []Version{{}}, 0, api.ErrKind)
	checkPut(t, of("2 5"), []Version{{Dead: true}}, 0, api.ErrOld)
	checkPut(t, nil, []Version{{}}, 0, api.ErrKind)
	checkPut(t, nil, []Version{{Dead: true}}, 0, api.ErrOld)
}

// P12.1: what was refused can be put in other words, and one by one makes the same chain as all at once.
func TestPutAgain(t *testing.T) {
	var c Chain
	var m plain
	for _, v := range []Version{dead(0), live(3), live(3), {At: 4}, dead(4), {At: 5, Dead: true, Rec: recAt(5)}, live(5), live(2), dead(7), live(6), live(8)} {
		put(t, &c, &m, v)
		checkChain(t, &c, m, 10)
	}
	checkChain(t, &c, of("3 4- 5 7- 8"))
	d, _ := holding(t, of("3 4- 5 7- 8")...)
	checkChain(t, d, m)
}

// P12.1: what was handed in isn't kept: it is written into, and the chain stays; neither is its spare room written into.
func TestPutKept(t *testing.T) {
	for _, ahead := range []string{"", "1", "1- 2"} {
		room := of("11 12- 13 14 15")
		c, m := holding(t, of(ahead)...)
		put(t, c, &m, room[:2]...)
		put(t, c, &m, live(20))
		if !slices.Equal(room, of("11 12- 13 14 15")) {
			t.Errorf("Put made %s of what was handed in", text(room))
		}
		for i := range room {
			room[i] = live(99)
		}
		checkChain(t, c, append(of(ahead), of("11 12- 20")...))
		if !slices.Equal(room, of("99 99 99 99 99")) {
			t.Errorf("%s of what was handed in", text(room))
		}
	}
}

// P12.1: a list that was handed out is written into, its spare room too, and the chain and other lists stay.
func TestListWritten(t *testing.T) {
	var c Chain
	var m plain
	for at := uint64(1); at < 20; at++ {
		put(t, &c, &m, live(at))
		first, second := c.List(), c.List()
		for i := range first[:cap(first)] {
			first[:cap(first)][i] = dead(77)
		}
		if !slices.Equal(second, m) {
			t.Errorf("another list is %s", text(second))
		}
		checkChain(t, &c, m)
		_ = append(second, dead(66))
		if at%5 == 0 {
			trim(t, &c, &m, 2, at-1, at-2)
			checkChain(t, &c, m)
		}
	}
}

// P2, P12.1: a chain's list put into another chain makes the same one; each goes on by itself.
func TestListPut(t *testing.T) {
	c, m := holding(t, of("2 5- 7 9-")...)
	d, n := holding(t, c.List()...)
	put(t, d, &n, live(11))
	put(t, c, &m, dead(10), live(12))
	checkChain(t, c, of("2 5- 7 9- 10- 12"))
	checkChain(t, d, of("2 5- 7 9- 11"))
	if many, err := c.Put(c.List()...); many != 0 || err != api.ErrOld {
		t.Errorf("Put of its own list: %d, %d", many, err)
	}
	trim(t, c, &m, 8)
	checkChain(t, c, of("7 12"))
	checkChain(t, d, of("2 5- 7 9- 11"))
}
