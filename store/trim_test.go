package store

import (
	"math"
	"slices"
	"testing"

	"vulgate/key"
)

// P14.3: Trim without pins, with one, with several, of live keys and dead ones, written out: how many went, and the times at which something is seen from then on.
func TestTrim(t *testing.T) {
	for _, x := range []struct {
		key  string
		pins []uint64
		gone int
		seen []uint64
	}{
		{"s/0/0/a", nil, 3, []uint64{7, 8, 9, 10}}, {"s/0/0/a", []uint64{0}, 3, []uint64{7, 8, 9, 10}}, {"s/0/0/a", []uint64{1}, 2, []uint64{1, 2, 3, 4, 5, 6, 7, 8, 9, 10}}, {"s/0/0/a", []uint64{5, 4}, 2, []uint64{3, 4, 5, 6, 7, 8, 9, 10}},
		{"s/0/0/a", []uint64{6}, 3, []uint64{7, 8, 9, 10}}, {"s/0/0/a", []uint64{6, 3}, 1, []uint64{3, 4, 5, 7, 8, 9, 10}}, {"s/0/0/a", []uint64{6, 1, 3, 1}, 0, []uint64{1, 2, 3, 4, 5, 7, 8, 9, 10}}, {"s/0/0/a", []uint64{7, math.MaxUint64}, 3, []uint64{7, 8, 9, 10}},
		{"s/0/0/c", nil, 2, nil}, {"s/0/0/c", []uint64{10}, 2, nil}, {"s/0/0/c", []uint64{4}, 1, nil}, {"s/0/0/c", []uint64{9}, 0, []uint64{5, 6, 7, 8, 9}}, {"s/0/0/c", []uint64{9, 10, 11}, 0, []uint64{5, 6, 7, 8, 9}}, {"s/0/0/c", []uint64{0}, 1, nil},
		{"l/1/de", nil, 1, nil}, {"l/1/de", []uint64{10}, 1, nil}, {"l/1/de", []uint64{9}, 0, nil}, {"p/0", nil, 1, []uint64{8, 9, 10}}, {"p/0", []uint64{7}, 0, []uint64{1, 2, 3, 4, 5, 6, 7, 8, 9, 10}},
		{"p/2", nil, 0, nil}, {"p/2", []uint64{1, 2, 3}, 0, nil}, {"b/0/0", nil, 0, []uint64{2, 3, 4, 5, 6, 7, 8, 9, 10}}, {"b/0/0", []uint64{1}, 0, []uint64{2, 3, 4, 5, 6, 7, 8, 9, 10}},
	} {
		s, m := holding(t, ten()...)
		k := of(x.key)
		if many := m.trim(k, x.pins); many != x.gone {
			t.Fatalf("of %s by %d %d must go, not %d", x.key, x.pins, many, x.gone)
		}
		if many := s.Trim(k, x.pins...); many != x.gone {
			t.Errorf("Trim of %s by %d: %d, not %d", x.key, x.pins, many, x.gone)
		}
		var seen []uint64
		for time := range s.Last() + 1 {
			if _, is := s.Read(k, time); is {
				seen = append(seen, time)
			}
		}
		if !slices.Equal(seen, x.seen) {
			t.Errorf("%s, trimmed by %d, is seen at %d", x.key, x.pins, seen)
		}
		checkWhole(t, s, *m)
		trim(t, s, m, k, x.pins...)
		checkStore(t, s, *m)
	}
}

// P14.3: a key of which no version is left is gone from the store, as if it never was; it comes again at a later time.
func TestTrimGone(t *testing.T) {
	s, m := holding(t, "p/0 p/1 p/2", "p/1!", "p/3!")
	k := of("p/1")
	trim(t, s, m, k, 2, 3)
	if l := s.Keys(key.Prefix{}); !slices.Equal(l, keysOf("p/0 p/2 p/3")) || s.Newest(k) != 0 || s.Live() != 2 {
		t.Errorf("Keys: %v, Newest: %d, Live: %d", l, s.Newest(k), s.Live())
	}
	if next, is := s.Next(of("p/0")); next != of("p/2") || !is {
		t.Errorf("Next: %q, %t", next.Text(), is)
	}
	checkStore(t, s, *m)
	trim(t, s, m, of("p/3"), 2)
	trim(t, s, m, of("p/3"))
	if next, is := s.Next(of("p/2")); next != (key.Key{}) || is {
		t.Errorf("Next: %q, %t", next.Text(), is)
	}
	for _, p := range []string{"p/0", "p/2"} {
		publish(t, s, m, writes(1, p+"!")...)
		trim(t, s, m, of(p))
	}
	if s.Last() != 5 || s.Live() != 0 || len(s.Keys(key.Prefix{})) != 0 || s.Versions(key.Prefix{}) != 0 || s.NewestIn(key.Prefix{}) != 0 {
		t.Errorf("Last: %d, Live: %d, Keys: %v", s.Last(), s.Live(), s.Keys(key.Prefix{}))
	}
	checkStore(t, s, *m)
	publish(t, s, m, writes(2, "p/1")...)
	if s.Newest(k) != 6 {
		t.Errorf("Newest: %d", s.Newest(k))
	}
	checkStore(t, s, *m)
}

// P14.3: trimmed keys stay as live or dead as they were, so that there is as much room as before; wrong keys aren't there.
func TestTrimRoom(t *testing.T) {
	s, m := roomAt(t, 199)
	publishAll(t, s, m, sources(0, 50, true))
	publishAll(t, s, m, sources(600, 50, false))
	for _, pins := range [][]uint64{{3, 14}, {14}, nil} {
		for _, k := range slices.Concat(m.keys(key.Prefix{}), others(), wrongKeys()) {
			trim(t, s, m, k, pins...)
			if s.Live() != 199 {
				t.Fatalf("Live: %d behind Trim of %q by %d", s.Live(), k.Text(), pins)
			}
		}
		wantRoom(t, s, m, 0, sources(0, 1, false)...)
		wantRoom(t, s, m, 6, sources(0, 2, false)...)
	}
	if many := len(s.Keys(key.Prefix{})); many != 199 {
		t.Errorf("%d keys left", many)
	}
	publish(t, s, m, sources(0, 1, false)...)
	publish(t, s, m, sources(1, 1, false)...)
	checkWhole(t, s, *m)
}

// P14.3: pins that were handed in are neither kept nor changed, nor is what is behind them.
func TestTrimMemory(t *testing.T) {
	s, m := holding(t, ten()...)
	pins := []uint64{9, 3, 6, 1, 2, 4}
	for _, k := range m.keys(key.Prefix{}) {
		trim(t, s, m, k, pins[:3]...)
		if !slices.Equal(pins, []uint64{9, 3, 6, 1, 2, 4}) {
			t.Fatalf("Trim of %q made %d", k.Text(), pins)
		}
	}
	clear(pins)
	checkStore(t, s, *m)
	for _, k := range m.keys(key.Prefix{}) {
		trim(t, s, m, k, 9, 3, 6)
	}
	checkStore(t, s, *m)
}

// P14.3: Next from keys that are there and from others, from the last, and in an empty store: from the zero key on all keys are gone through, in order.
func TestNext(t *testing.T) {
	s, m := holding(t, ten()...)
	for _, x := range []struct{ key, next string }{{"p/0", "p/1"}, {"p/1", "g/0/1"}, {"p/3", "g/0/1"}, {"g/0/1", "l/0/de"}, {"l/0/de", "l/0/de-AT"}, {"l/0/fr", "l/1/de"}, {"b/0/0", "b/0/2"}, {"b/0/1", "b/0/2"}, {"s/0/0/a", "s/0/0/b"}, {"s/0/0/c", "s/0/1/a"}, {"t/0/0/a/de-AT", "t/0/0/b/de"}} {
		if k, is := s.Next(of(x.key)); k != of(x.next) || !is {
			t.Errorf("Next of %s: %q, %t", x.key, k.Text(), is)
		}
	}
	for _, text := range []string{"t/1/0/a/de", "t/1/0/a/de-AT", "t/3/3/z/zz"} {
		if k, is := s.Next(of(text)); k != (key.Key{}) || is {
			t.Errorf("Next of %s: %q, %t", text, k.Text(), is)
		}
	}
	var l []key.Key
	for k, is := s.Next(key.Key{}); is; k, is = s.Next(k) {
		l = append(l, k)
	}
	if want := keysOf("p/0 p/1 g/0/1 l/0/de l/0/de-AT l/1/de b/0/0 b/0/2 s/0/0/a s/0/0/b s/0/0/c s/0/1/a s/0/2/a t/0/0/a/de t/0/0/a/de-AT t/0/0/b/de t/1/0/a/de"); !slices.Equal(l, want) || !slices.Equal(m.keys(key.Prefix{}), want) {
		t.Errorf("gone through: %v", l)
	}
}

// P14.3: Keys of prefixes of each depth, of dead keys too, and of depths beyond.
func TestKeys(t *testing.T) {
	s, _ := holding(t, ten()...)
	for _, x := range []struct {
		key   string
		depth int
		keys  string
	}{
		{"t/0/0/a/de", -1, ""}, {"t/0/0/a/de", 1, "t/0/0/a/de t/0/0/a/de-AT t/0/0/b/de t/1/0/a/de"}, {"t/0/0/a/de", 2, "t/0/0/a/de t/0/0/a/de-AT t/0/0/b/de"}, {"t/0/0/a/de", 3, "t/0/0/a/de t/0/0/a/de-AT t/0/0/b/de"}, {"t/0/0/a/de", 4, "t/0/0/a/de t/0/0/a/de-AT"}, {"t/0/0/a/de", 5, "t/0/0/a/de"}, {"t/0/0/a/de", 6, ""},
		{"s/0/0/c", 3, "s/0/0/a s/0/0/b s/0/0/c"}, {"s/0/0/c", 4, "s/0/0/c"}, {"s/0/1/c", 4, ""}, {"s/0/1/c", 3, "s/0/1/a"}, {"s/0/3/a", 3, ""}, {"s/0/3/a", 2, "s/0/0/a s/0/0/b s/0/0/c s/0/1/a s/0/2/a"}, {"l/1/fr", 2, "l/1/de"}, {"p/1", 1, "p/0 p/1"}, {"p/2", 2, ""},
	} {
		if l := s.Keys(key.Prefix{Key: of(x.key), Depth: x.depth}); !slices.Equal(l, keysOf(x.keys)) {
			t.Errorf("Keys of %s, %d: %v, not %s", x.key, x.depth, l, x.keys)
		}
	}
}
