package sweep

import (
	"math"
	"slices"
	"strings"
	"testing"

	"vulgate/api"
	"vulgate/key"
	"vulgate/store"
)

// left holds how many versions are left of keys, whose texts are written with them, against what is written out.
func (b *bench) left(t *testing.T, want map[string]int) {
	t.Helper()
	for text, many := range want {
		if n := b.s.Versions(key.Prefix{Key: of(text), Depth: 5}); n != many {
			t.Errorf("%s has %d versions, not %d", text, n, many)
		}
	}
	b.check(t)
}

// unlike: at how many times there are pins.
func (m plain) unlike() int {
	times := map[uint64]int{}
	for _, time := range m.pins {
		times[time]++
	}
	return len(times)
}

// shown is what is seen of a store at some times.
type shown [][]store.Entry

// show tells what is seen of the store at each pin, and at some times from the last one on.
func (b *bench) show() shown {
	var l shown
	for _, time := range append(b.p.Times(), b.m.last, b.m.last+1, math.MaxUint64) {
		entries, _ := b.s.Scan(key.Prefix{}, time, math.MaxInt)
		l = append(l, entries)
	}
	return l
}

// sweepAll takes a round, and holds what is left, and what is seen, against what the chapter says of a round.
func (b *bench) sweepAll(t *testing.T) {
	t.Helper()
	before := b.show()
	b.round(t)
	for i, entries := range b.show() {
		if !slices.Equal(entries, before[i]) {
			t.Errorf("by pins at %v seen: %v, not %v", b.m.pins, entries, before[i])
		}
	}
	for _, k := range b.s.Keys(key.Prefix{}) {
		many := b.s.Versions(key.Prefix{Key: k, Depth: 5})
		if many > b.m.unlike()+1 {
			t.Errorf("by pins at %v %q has %d versions", b.m.pins, k.Text(), many)
		}
		_, live := b.s.Read(k, math.MaxUint64)
		if len(b.m.pins) == 0 && (many != 1 || !live) {
			t.Errorf("without pins %q has %d versions, and is live: %t", k.Text(), many, live)
		}
	}
	if len(b.m.pins) == 0 && b.s.Versions(key.Prefix{}) != b.s.Live() {
		t.Errorf("without pins %d versions of %d live keys", b.s.Versions(key.Prefix{}), b.s.Live())
	}
}

// lives are writes of some times, which tell by a number's digits to the base 3 at which of them a key is written, and at which it died.
func lives(text string, n, times int) []string {
	var l []string
	for range times {
		l = append(l, []string{"", text, text + "!"}[n%3])
		n /= 3
	}
	return l
}

// both are the writes of two keys' times, and of one more that is written each time.
func both(a, b []string) []string {
	var l []string
	for i := range a {
		l = append(l, strings.Join([]string{a[i], b[i], "p/3"}, " "))
	}
	return l
}

// P15.2: behind a round without pins each live key has one version, and each other one none: two keys of all lives of three times, and one that is always live.
func TestRoundBare(t *testing.T) {
	for n := range 27 * 27 {
		b := holding(t, both(lives("p/0", n%27, 3), lives("s/0/0/a", n/27, 3))...)
		written := b.s.Versions(key.Prefix{})
		for range 2 {
			b.sweepAll(t)
			b.check(t)
			if many := b.w.Gone() + b.s.Live(); many != written {
				t.Errorf("%d of %d versions went or are live", many, written)
			}
		}
	}
}

// P15.2: all sets of pins at the times from 0 to 5, each once or twice, and all lives of four times: at most one version for each unlike pin, and one more; at each pin, and from the last time on, the same is seen as ahead.
func TestRoundPins(t *testing.T) {
	for n := range 81 {
		for set := range 64 {
			b := holding(t, both(lives("l/0/de", n, 4), lives("s/0/0/a", (n*7+set)%81, 4))...)
			for time := range uint64(6) {
				if set>>time&1 == 1 {
					b.pin(t, slices.Repeat([]uint64{time}, 1+int(time)%2)...)
				}
			}
			b.sweepAll(t)
			b.check(t)
			many := b.w.Gone()
			b.sweepAll(t)
			if b.w.Gone() != many {
				t.Errorf("by the same pins %d went in a second round", b.w.Gone()-many)
			}
		}
	}
}

// P15.2: written out: what is left by the same time pinned twice, a pin ahead of the first version, at the last time, and behind it.
func TestPinsWritten(t *testing.T) {
	for _, x := range []struct {
		pins []uint64
		want map[string]int
	}{
		{nil, map[string]int{"p/0": 1, "g/0/1": 1, "b/0/0": 1, "s/0/0/a": 0, "t/0/0/a/de": 1}},
		{[]uint64{0}, map[string]int{"p/0": 1, "g/0/1": 1, "b/0/0": 1, "s/0/0/a": 1, "t/0/0/a/de": 1}},
		{[]uint64{1}, map[string]int{"p/0": 2, "g/0/1": 1, "b/0/0": 2, "s/0/0/a": 2, "t/0/0/a/de": 1}},
		{[]uint64{1, 1}, map[string]int{"p/0": 2, "g/0/1": 1, "b/0/0": 2, "s/0/0/a": 2, "t/0/0/a/de": 1}},
		{[]uint64{2, 2, 2}, map[string]int{"p/0": 1, "g/0/1": 1, "b/0/0": 2, "s/0/0/a": 2, "t/0/0/a/de": 2}},
		{[]uint64{4}, map[string]int{"p/0": 1, "g/0/1": 1, "b/0/0": 2, "s/0/0/a": 0, "t/0/0/a/de": 1}},
		{[]uint64{5}, map[string]int{"p/0": 1, "g/0/1": 1, "b/0/0": 1, "s/0/0/a": 0, "t/0/0/a/de": 1}},
		{[]uint64{5, 6, math.MaxUint64}, map[string]int{"p/0": 1, "g/0/1": 1, "b/0/0": 1, "s/0/0/a": 0, "t/0/0/a/de": 1}},
		{[]uint64{4, 1, 4, 1}, map[string]int{"p/0": 2, "g/0/1": 1, "b/0/0": 3, "s/0/0/a": 2, "t/0/0/a/de": 1}},
		{[]uint64{3, 2, 1, 0}, map[string]int{"p/0": 2, "g/0/1": 1, "b/0/0": 2, "s/0/0/a": 3, "t/0/0/a/de": 2}},
		{[]uint64{1, 2, 3, 4, 5}, map[string]int{"p/0": 2, "g/0/1": 1, "b/0/0": 3, "s/0/0/a": 3, "t/0/0/a/de": 2}},
	} {
		b := holding(t, five()...)
		b.pin(t, x.pins...)
		b.sweepAll(t)
		b.left(t, x.want)
	}
}

// P15.1, P15.2: pins that are there when a step is taken hold for it: those that were taken away between two steps keep nothing from then on, nor do those of a time at which another one is left go.
func TestPinsBetween(t *testing.T) {
	b := holding(t, five()...)
	b.pin(t, 1, 2, 1)
	b.wantStep(t, "p/0", 0)
	b.unpin(t, 0)
	b.wantStep(t, "g/0/1", 0)
	b.unpin(t, 1)
	b.wantStep(t, "b/0/0", 1)
	b.wantStep(t, "s/0/0/a", 1)
	b.unpin(t, 2, 2)
	b.wantStep(t, "t/0/0/a/de", 1)
	b.left(t, map[string]int{"p/0": 2, "b/0/0": 2, "s/0/0/a": 2, "t/0/0/a/de": 1})
	b.wantStep(t, "", 0)
	b.pin(t, 5)
	b.wantStep(t, "p/0", 1)
	b.publish(t, "b/0/0! t/0/0/a/de")
	b.publish(t, "b/0/0")
	b.wantStep(t, "g/0/1", 0)
	b.wantStep(t, "b/0/0", 2)
	b.unpin(t, 0)
	b.wantStep(t, "s/0/0/a", 2)
	b.pin(t, 5)
	b.wantStep(t, "t/0/0/a/de", 0)
	b.wantStep(t, "", 0)
	b.left(t, map[string]int{"p/0": 1, "b/0/0": 2, "s/0/0/a": 0, "t/0/0/a/de": 2})
	b.wantAt(t, "", 2, 8)
}

// P15.2: the same pins, however a round of steps is taken, leave the same: one by one, some at once, from the middle of one, and of a round.
func TestPinsSteps(t *testing.T) {
	for n := range 81 {
		texts := both(lives("p/0", n, 4), lives("t/0/0/a/de", 80-n, 4))
		var all []shown
		for _, sweep := range []func(*bench){
			func(b *bench) { b.round(t) },
			func(b *bench) { b.steps(t, 4) },
			func(b *bench) { b.steps(t, 100) },
			func(b *bench) { b.steps(t, 2); b.steps(t, 2) },
			func(b *bench) { b.steps(t, 1); b.round(t) },
			func(b *bench) {
				for range 4 {
					b.step(t)
				}
			},
		} {
			b := holding(t, texts...)
			b.pin(t, uint64(n%5), uint64(n%3))
			sweep(b)
			b.check(t)
			all = append(all, b.show())
		}
		for _, l := range all[1:] {
			for i := range l {
				if !slices.Equal(l[i], all[0][i]) {
					t.Errorf("%v: %v, not %v", texts, l[i], all[0][i])
				}
			}
		}
	}
}

// P15.2: a table that is full of unlike pins, of pins at one time, and one of which all were taken away.
func TestPinsMany(t *testing.T) {
	b := holding(t, slices.Repeat([]string{"p/0 s/0/0/a", "p/0 s/0/0/a!"}, 50)...)
	for time := range uint64(64) {
		b.pin(t, time+20)
	}
	b.sweepAll(t)
	b.left(t, map[string]int{"p/0": 65, "s/0/0/a": 64}) // the source was dead at the first pin
	for id := range 62 {
		b.unpin(t, id+1)
	}
	b.sweepAll(t)
	b.left(t, map[string]int{"p/0": 3, "s/0/0/a": 2})
	b.unpin(t, 0, 63)
	b.pin(t, slices.Repeat([]uint64{83}, 64)...)
	b.sweepAll(t)
	b.left(t, map[string]int{"p/0": 2, "s/0/0/a": 2})
	for id := range 64 {
		b.sweepAll(t)
		b.unpin(t, id)
	}
	b.left(t, map[string]int{"p/0": 2, "s/0/0/a": 2})
	b.sweepAll(t)
	b.left(t, map[string]int{"p/0": 1, "s/0/0/a": 0})
	if b.w.Gone() != 199 || b.p.Len() != 0 {
		t.Errorf("Gone: %d, %d pins", b.w.Gone(), b.p.Len())
	}
}

// P15.1: steps leave the pins as they were, and the store's last time, its live keys and its room.
func TestPinsStay(t *testing.T) {
	b := holding(t, five()...)
	b.pin(t, 4, 1, 4, 0, math.MaxUint64)
	for range 3 {
		live := b.s.Live()
		b.steps(t, 4)
		b.round(t)
		if l := b.p.Times(); !slices.Equal(l, []uint64{0, 1, 4, math.MaxUint64}) || b.p.Count(4) != 2 || b.p.Len() != 5 {
			t.Errorf("Times: %d", l)
		}
		if b.s.Live() != live || b.s.Last() != b.m.last {
			t.Errorf("Live: %d, Last: %d", b.s.Live(), b.s.Last())
		}
		b.check(t)
		b.publish(t, "p/0 s/0/0/a")
		b.publish(t, "s/0/0/a!")
	}
	if id, err := b.p.Pin(9); id != 5 || err != api.OK {
		t.Errorf("Pin: %d, %d", id, err)
	}
}
