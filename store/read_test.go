package store

import (
	"math"
	"slices"
	"testing"

	"vulgate/key"
	"vulgate/record"
)

// ten are the texts of ten times: keys that come, change, die and come again.
func ten() []string {
	return []string{
		"p/0 s/0/0/a", "p/1 g/0/1 l/0/de b/0/0 s/0/0/b", "s/0/0/a s/0/1/a", "s/0/0/b! t/0/0/a/de t/0/0/a/de-AT", "p/1! s/0/0/c t/0/0/b/de",
		"s/0/0/a! t/0/0/a/de!", "s/0/0/a b/0/2 s/0/2/a", "p/0 l/0/de! l/0/de-AT", "s/0/0/b t/0/0/a/de t/1/0/a/de", "s/0/0/c! g/0/1! l/1/de! s/0/1/a!",
	}
}

// P14.2: Read at 0, at each time, between and behind the last one, of keys that came, changed, died and came again, and of others.
func TestRead(t *testing.T) {
	s, m := holding(t, ten()...)
	checkStore(t, s, *m)
	for _, x := range []struct {
		key   string
		time  uint64
		value int
	}{
		{"s/0/0/a", 0, -1}, {"s/0/0/a", 1, 0}, {"s/0/0/a", 2, 0}, {"s/0/0/a", 3, 2}, {"s/0/0/a", 5, 2}, {"s/0/0/a", 6, -1}, {"s/0/0/a", 7, 6}, {"s/0/0/a", 10, 6}, {"s/0/0/a", 11, 6}, {"s/0/0/a", math.MaxUint64, 6},
		{"s/0/0/c", 4, -1}, {"s/0/0/c", 5, 4}, {"s/0/0/c", 9, 4}, {"s/0/0/c", 10, -1}, {"s/0/0/c", 99, -1}, {"l/1/de", 9, -1}, {"l/1/de", 10, -1}, {"p/2", 0, -1}, {"p/2", 10, -1}, {"p/2", math.MaxUint64, -1},
	} {
		k, want := of(x.key), record.Rec{}
		if x.value >= 0 {
			want = rec(k.Kind, x.value)
		}
		if r, is := s.Read(k, x.time); r != want || is != (x.value >= 0) {
			t.Errorf("Read of %s at %d: %+v, %t", x.key, x.time, r, is)
		}
	}
}

// P14.2: Newest of keys without versions, with one, with several, and dead ones.
func TestNewest(t *testing.T) {
	s, _ := holding(t, ten()...)
	for _, x := range []struct {
		key  string
		time uint64
	}{{"p/0", 8}, {"p/1", 5}, {"p/2", 0}, {"g/0/1", 10}, {"g/0/0", 0}, {"b/0/0", 2}, {"s/0/0/a", 7}, {"s/0/0/b", 9}, {"s/0/0/c", 10}, {"s/0/0/d", 0}, {"l/1/de", 10}, {"t/0/0/b/de", 5}, {"t/0/0/b/de-AT", 0}} {
		if at := s.Newest(of(x.key)); at != x.time {
			t.Errorf("Newest of %s: %d, not %d", x.key, at, x.time)
		}
	}
}

// P14.2, P14.3: NewestIn and Versions of prefixes of each depth, and of depths beyond.
func TestPrefixes(t *testing.T) {
	s, _ := holding(t, ten()...)
	for _, x := range []struct {
		key      string
		depth    int
		newest   uint64
		versions int
	}{
		{"t/0/0/a/de", -1, 0, 0}, {"t/0/0/a/de", 0, 10, 30}, {"t/0/0/a/de", 1, 9, 6}, {"t/0/0/a/de", 2, 9, 5}, {"t/0/0/a/de", 3, 9, 5}, {"t/0/0/a/de", 4, 9, 4}, {"t/0/0/a/de", 5, 9, 3}, {"t/0/0/a/de", 6, 0, 0},
		{"t/0/0/b/fr", 4, 5, 1}, {"t/0/0/b/fr", 5, 0, 0}, {"t/0/1/a/de", 3, 0, 0}, {"t/0/1/a/de", 2, 9, 5}, {"t/3/1/a/de", 2, 0, 0},
		{"s/0/0/b", 3, 10, 9}, {"s/0/0/b", 4, 9, 3}, {"s/0/0/b", 5, 9, 3}, {"s/0/1/b", 3, 10, 2}, {"s/0/2/b", 3, 7, 1}, {"s/0/3/b", 3, 0, 0}, {"s/0/3/b", 2, 10, 12},
		{"p/1", 2, 5, 2}, {"p/2", 2, 0, 0}, {"p/2", 1, 8, 4}, {"l/1/de", 2, 10, 1}, {"l/0/de", 1, 10, 4}, {"b/0/1", 1, 7, 2}, {"b/0/1", 3, 0, 0}, {"g/0/1", 3, 10, 2},
	} {
		p := key.Prefix{Key: of(x.key), Depth: x.depth}
		if at, many := s.NewestIn(p), s.Versions(p); at != x.newest || many != x.versions {
			t.Errorf("%s, %d: NewestIn %d, Versions %d, not %d, %d", x.key, x.depth, at, many, x.newest, x.versions)
		}
	}
}

// keysSeen are the keys of entries, as a text.
func keysSeen(l []Entry) string {
	text := ""
	for _, e := range l {
		text += e.Key.Text() + " "
	}
	return text
}

// P14.2: Scan with most below 0, 0, 1, as many as there are, one fewer and one more, ahead of the first time and behind the last one, with dead keys in between.
func TestScan(t *testing.T) {
	s, _ := holding(t, ten()...)
	for _, x := range []struct {
		key   string
		depth int
		time  uint64
		most  int
		keys  string
		more  bool
	}{
		{"s/0/0/a", 3, 0, 9, "", false}, {"s/0/0/a", 3, 0, 0, "", false}, {"s/0/0/a", 3, 0, -1, "", false},
		{"s/0/0/a", 3, 2, -1, "", true}, {"s/0/0/a", 3, 2, 0, "", true}, {"s/0/0/a", 3, 2, 1, "s/0/0/a ", true}, {"s/0/0/a", 3, 2, 2, "s/0/0/a s/0/0/b ", false}, {"s/0/0/a", 3, 2, 3, "s/0/0/a s/0/0/b ", false},
		{"s/0/0/a", 3, 5, 1, "s/0/0/a ", true}, {"s/0/0/a", 3, 5, 2, "s/0/0/a s/0/0/c ", false}, {"s/0/0/a", 3, 6, 1, "s/0/0/c ", false}, {"s/0/0/a", 3, 6, 0, "", true}, {"s/0/0/a", 3, 6, math.MinInt, "", true},
		{"s/0/0/a", 3, 10, 1, "s/0/0/a ", true}, {"s/0/0/a", 3, 10, 2, "s/0/0/a s/0/0/b ", false}, {"s/0/0/a", 3, math.MaxUint64, math.MaxInt, "s/0/0/a s/0/0/b ", false},
		{"s/0/0/c", 4, 10, 0, "", false}, {"s/0/0/c", 4, 9, 0, "", true}, {"s/0/0/c", 4, 9, 1, "s/0/0/c ", false},
		{"l/1/de", 2, 10, 5, "", false}, {"l/0/de", 1, 10, 5, "l/0/de-AT ", false}, {"t/0/0/a/de", 4, 9, 1, "t/0/0/a/de ", true}, {"t/0/0/a/de", 4, 8, 1, "t/0/0/a/de-AT ", false},
		{"p/0", 0, 10, 4, "p/0 l/0/de-AT b/0/0 b/0/2 ", true}, {"p/0", 0, 10, 11, "p/0 l/0/de-AT b/0/0 b/0/2 s/0/0/a s/0/0/b s/0/2/a t/0/0/a/de t/0/0/a/de-AT t/0/0/b/de t/1/0/a/de ", false}, {"p/0", -1, 10, 4, "", false}, {"p/0", 6, 10, 4, "", false}, {"p/0", 6, 10, 0, "", false},
	} {
		l, more := s.Scan(key.Prefix{Key: of(x.key), Depth: x.depth}, x.time, x.most)
		if keysSeen(l) != x.keys || more != x.more {
			t.Errorf("Scan of %s, %d at %d, most %d: %s, %t, not %s, %t", x.key, x.depth, x.time, x.most, keysSeen(l), more, x.keys, x.more)
		}
		for _, e := range l {
			if r, is := s.Read(e.Key, x.time); !is || r != e.Rec {
				t.Errorf("Scan of %s, %d at %d: of %q %+v, not %+v", x.key, x.depth, x.time, e.Key.Text(), e.Rec, r)
			}
		}
	}
}

// P14.2, P14.3, P14.4: lists that were handed out, or written into, share nothing with the store or with one another.
func TestAnswersMemory(t *testing.T) {
	s, m := holding(t, ten()...)
	for range 2 {
		for _, p := range []key.Prefix{{}, {Key: of("s/0/0/a"), Depth: 1}, {Key: of("s/0/0/a"), Depth: 3}} {
			l, _ := s.Scan(p, 10, 5)
			other, _ := s.Scan(p, 10, 5)
			keys, otherKeys := s.Keys(p), s.Keys(p)
			was, wasKeys := slices.Clone(other), slices.Clone(otherKeys)
			clear(l)
			clear(keys)
			clear(l[len(l):cap(l)])
			clear(keys[len(keys):cap(keys)])
			_, _ = append(l, Entry{Key: of("p/3")}), append(keys, of("p/3"))
			if !slices.Equal(other, was) || !slices.Equal(otherKeys, wasKeys) {
				t.Errorf("of %q, %d a list changed by another one", p.Key.Text(), p.Depth)
			}
		}
		checkWhole(t, s, *m)
		publish(t, s, m, writes(30, "p/0 s/0/0/c s/0/0/d")...)
	}
	checkStore(t, s, *m)
}

// P14.4: what is seen at a time stays, whatever is published later.
func TestStays(t *testing.T) {
	var c chance
	s, m := New(), &plain{}
	var told [][]Entry
	for i := range 120 {
		l, _ := s.Scan(key.Prefix{}, s.Last(), math.MaxInt)
		told = append(told, l)
		publish(t, s, m, writes(i, ten()[c.below(10)])...)
		for time, want := range told {
			if l, more := s.Scan(key.Prefix{}, uint64(time), math.MaxInt); !slices.Equal(l, want) || more {
				t.Fatalf("at %d behind %d: %v, not %v", time, i, l, want)
			}
		}
	}
	checkWhole(t, s, *m)
}
