package store

import (
	"math"
	"slices"
	"testing"

	"vulgate/api"
	"vulgate/key"
	"vulgate/record"
)

// P14.2: the first time is 1, each next one is one more, and all writes of one call have the same.
func TestPublishTimes(t *testing.T) {
	s, m := New(), &plain{}
	for i := range 40 {
		l := sources(i, 1+i%16, i%5 == 4)
		if time, err := s.Publish(l...); time != uint64(i+1) || err != api.OK || s.Last() != uint64(i+1) {
			t.Errorf("the time %d, %d, Last %d at %d", time, err, s.Last(), i+1)
		}
		m.publish(l)
		for _, w := range l {
			if at := s.Newest(w.Key); at != uint64(i+1) {
				t.Errorf("Newest of %q: %d at %d", w.Key.Text(), at, i+1)
			}
		}
		checkWhole(t, s, *m)
	}
}

// P14.2: writes of each kind, dead and not, of keys that never were, are live, and are dead.
func TestPublishKinds(t *testing.T) {
	s, m := holding(t, six, six, "p/0! b/0/1! t/0/0/a/de!", "p/0! g/0/1! t/0/0/a/de l/0/de", "p/1! b/0/2! l/0/fr!", six)
	checkStore(t, s, *m)
	if s.Live() != 6 {
		t.Errorf("Live: %d", s.Live())
	}
}

// P14.2: a branch's record whose At is 0 forks at the time at which it is published, but of branch 0; that of another At stays, and so do other kinds' records of keys with numbers.
func TestPublishFork(t *testing.T) {
	s, m := New(), &plain{}
	publish(t, s, m, writes(1, "p/0")...)
	var l []Write
	for at := range uint8(4) {
		k := key.Key{Kind: key.Branch, Project: 1, At: at}
		l = append(l, Write{Key: k, Rec: record.Rec{Kind: record.Branch, Parent: 1, State: record.Closed}})
		for _, fork := range []uint64{1, 7, math.MaxUint64} {
			publish(t, s, m, Write{Key: k, Rec: record.Rec{Kind: record.Branch, Parent: 2, At: fork}})
			if r, is := s.Read(k, s.Last()); !is || r != (record.Rec{Kind: record.Branch, Parent: 2, At: fork}) {
				t.Errorf("%q: %+v, %t", k.Text(), r, is)
			}
		}
	}
	l = append(l, writes(0, "g/0/1 g/0/15 s/0/1/a s/0/3/a t/0/2/a/de")...)
	for range 3 {
		publish(t, s, m, l...)
		last := s.Last()
		for _, w := range l {
			want := w.Rec
			if w.Key.Kind == key.Branch && w.Key.At > 0 {
				want.At = last
			}
			if r, is := s.Read(w.Key, last); !is || r != want {
				t.Errorf("%q: %+v, %t, not %+v", w.Key.Text(), r, is, want)
			}
		}
	}
	publish(t, s, m, writes(0, "b/1/1! b/1/2!")...)
	checkStore(t, s, *m)
}

// P14.2: a call that is refused tells Check's error, also where there is no room, and has changed nothing.
func TestPublishRefused(t *testing.T) {
	s, m := holding(t, "p/0 b/0/1 s/0/0/a", "s/0/0/a! s/0/0/c", "p/0 s/0/0/a")
	for _, x := range wrongs(of("s/0/0/a")) {
		publish(t, s, m, x.w)
		publish(t, s, m, append(writes(5, "p/0! b/0/2 s/0/0/c s/0/0/d"), x.w)...)
		publish(t, s, m, append([]Write{x.w}, writes(5, "p/0! b/0/2 s/0/0/c s/0/0/d")...)...)
	}
	publish(t, s, m)
	publish(t, s, m, sources(0, 17, false)...)
	publish(t, s, m, writes(5, "p/0! s/0/0/a p/0")...)
	publish(t, s, m, writes(5, "p/1! s/0/0/a p/1!")...)
	if s.Last() != 3 {
		t.Errorf("Last: %d", s.Last())
	}
	checkStore(t, s, *m)
}

// P14.1, P14.2: a full store: what it has no room for changes nothing; what it has room for is published, by which others come to have room.
func TestPublishFull(t *testing.T) {
	s, m := roomAt(t, 200)
	full := func(want api.Errno, l ...Write) {
		t.Helper()
		last := s.Last()
		publish(t, s, m, l...)
		if err := check(l); err == api.OK {
			err = want
		} else if err != want {
			t.Errorf("%s is wrong by itself: %d", show(l), err)
		}
		if is := s.Last() == last; is != (want != api.OK) || s.Live() != m.live() {
			t.Errorf("behind %s Last: %d, Live: %d", show(l), s.Last(), s.Live())
		}
	}
	full(api.ErrFull, writes(1, "p/0")...)
	full(api.ErrFull, sources(300, 1, false)...)
	full(api.ErrFull, slices.Concat(sources(0, 15, false), writes(1, "p/0"))...)
	full(api.ErrFull, slices.Concat(sources(0, 2, true), writes(1, "p/0 p/1 p/2"))...)
	full(api.ErrForm, slices.Concat(writes(1, "p/0"), []Write{{}})...)
	full(api.ErrTwice, writes(1, "p/0 p/1 p/0")...)
	full(api.ErrKind, Write{Key: of("p/0"), Rec: rec(record.Locale, 1)})
	full(api.ErrLong, sources(500, 17, false)...)
	full(api.ErrArg)
	checkWhole(t, s, *m)
	full(api.OK, sources(0, 16, false)...)
	full(api.OK, sources(600, 16, true)...)
	full(api.OK, slices.Concat(writes(1, "p/0 p/1"), sources(0, 2, true))...)
	full(api.ErrFull, sources(0, 1, false)...)
	full(api.OK, sources(2, 1, true)...)
	full(api.OK, sources(0, 1, false)...)
	full(api.ErrFull, sources(1, 1, false)...)
	if s.Live() != 200 {
		t.Errorf("Live: %d", s.Live())
	}
	checkWhole(t, s, *m)
}

// P14.2: Live and Last behind keys that are made, made again, dead, and dead again.
func TestLive(t *testing.T) {
	s, m := New(), &plain{}
	for i, x := range []struct {
		text string
		live int
	}{
		{"p/0", 1}, {"p/0", 1}, {"p/0!", 0}, {"p/0!", 0}, {"p/1!", 0}, {"p/0 p/1 p/2", 3}, {"p/0! p/1 p/2!", 1}, {"p/0 p/1! p/2 p/3!", 2}, {"p/1 p/3", 4}, {"p/0! p/1! p/2! p/3!", 0}, {six, 6},
	} {
		publish(t, s, m, writes(i, x.text)...)
		if s.Live() != x.live || s.Last() != uint64(i+1) {
			t.Errorf("behind %q at %d: %d live, Last: %d", x.text, i+1, s.Live(), s.Last())
		}
		if k := of("p/0"); i == 2 || i == 9 {
			trim(t, s, m, k)
			if s.Live() != x.live || len(s.Keys(key.Prefix{Key: k, Depth: 5})) != 0 {
				t.Errorf("trimmed behind %q: %d live", x.text, s.Live())
			}
		}
	}
	checkStore(t, s, *m)
}

// P14.2, P14.4: writes that were handed in are neither kept nor changed, nor is what is behind them.
func TestPublishMemory(t *testing.T) {
	s, m := New(), &plain{}
	for i := range 6 {
		l := writes(i, "p/0 b/0/1 s/0/0/a t/0/0/a/de p/1! p/2")
		if i%2 == 1 {
			l[1].Rec.At = 0
		}
		was := slices.Clone(l)
		publish(t, s, m, l[:5]...)
		if s.Room(l[:5]...) != api.OK || Check(l[:5]...) != api.OK || !slices.Equal(l, was) {
			t.Errorf("%s became %s", show(was), show(l))
		}
		clear(l)
		checkWhole(t, s, *m)
		copy(l, writes(40, "p/3 b/0/2 s/0/0/c p/1 p/2 p/0!"))
		checkWhole(t, s, *m)
	}
	checkStore(t, s, *m)
}
