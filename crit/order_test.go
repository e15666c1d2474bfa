package crit

import (
	"math"
	"slices"
	"testing"

	"vulgate/key"
)

// P11.2: the keys of prefixes of each level, written out.
func TestKeysWritten(t *testing.T) {
	x, _ := holding(t, mixed(new(chance), parseAll(t, "p/0", "p/1", "g/0/0", "l/0/de", "s/0/1/a", "s/0/1/a-", "s/0/1/b", "s/0/2/a", "s/1/0/a", "t/0/1/a/de", "t/0/1/a/de-AT", "t/0/1/a/fr", "t/0/1/b/de", "t/0/2/a/de", "t/1/1/a/de"))...)
	for _, c := range []struct {
		of    string
		depth int
		want  string
	}{
		{"t/0/1/a/de", 0, "p/0 p/1 g/0/0 l/0/de s/0/1/a s/0/1/a- s/0/1/b s/0/2/a s/1/0/a t/0/1/a/de t/0/1/a/de-AT t/0/1/a/fr t/0/1/b/de t/0/2/a/de t/1/1/a/de"},
		{"t/0/1/a/de", 1, "t/0/1/a/de t/0/1/a/de-AT t/0/1/a/fr t/0/1/b/de t/0/2/a/de t/1/1/a/de"},
		{"t/0/1/a/de", 2, "t/0/1/a/de t/0/1/a/de-AT t/0/1/a/fr t/0/1/b/de t/0/2/a/de"},
		{"t/0/1/a/de", 3, "t/0/1/a/de t/0/1/a/de-AT t/0/1/a/fr t/0/1/b/de"},
		{"t/0/1/a/de", 4, "t/0/1/a/de t/0/1/a/de-AT t/0/1/a/fr"},
		{"t/0/1/a/de", 5, "t/0/1/a/de"},
		{"t/0/1/a/nl", 5, ""}, {"t/0/1/a/nl", 4, "t/0/1/a/de t/0/1/a/de-AT t/0/1/a/fr"},
		{"t/0/1/c/de", 4, ""}, {"t/0/0/a/de", 3, ""}, {"t/0/3/a/de", 3, ""}, {"t/2/1/a/de", 2, ""}, {"t/2/1/a/de", 1, "t/0/1/a/de t/0/1/a/de-AT t/0/1/a/fr t/0/1/b/de t/0/2/a/de t/1/1/a/de"},
		{"s/0/1/a", 4, "s/0/1/a"}, {"s/0/1/a", 3, "s/0/1/a s/0/1/a- s/0/1/b"}, {"s/0/1/a-", 4, "s/0/1/a-"}, {"s/0/1/aa", 4, ""}, {"s/1/0/zz", 3, "s/1/0/a"},
		{"b/0/0", 1, ""}, {"b/0/0", 5, ""}, {"b/0/0", 0, "p/0 p/1 g/0/0 l/0/de s/0/1/a s/0/1/a- s/0/1/b s/0/2/a s/1/0/a t/0/1/a/de t/0/1/a/de-AT t/0/1/a/fr t/0/1/b/de t/0/2/a/de t/1/1/a/de"},
		{"p/3", 1, "p/0 p/1"}, {"p/3", 2, ""}, {"p/1", 2, "p/1"}, {"g/0/1", 2, "g/0/0"}, {"g/0/1", 3, ""}, {"l/0/fr", 4, "l/0/de"}, {"l/0/fr", 5, ""},
		{"t/0/1/a/de", -1, ""}, {"t/0/1/a/de", 6, ""}, {"t/0/1/a/de", 7, ""}, {"t/0/1/a/de", 25, ""}, {"t/0/1/a/de", math.MinInt, ""}, {"t/0/1/a/de", math.MaxInt, ""}, {"p/0", -1, ""}, {"p/0", 6, ""},
	} {
		if got := show(x.Keys(key.Prefix{Key: parse(t, c.of), Depth: c.depth})...); got != c.want {
			t.Errorf("Keys of %s, %d: %s, not %s", c.of, c.depth, got, c.want)
		}
	}
}

// sizes are how many bytes a prefix of a depth has.
var sizes = [6]int{0, 1, 2, 3, 15, 25}

// P11.2: of each depth, prefixes that hold none, one, some and all of the keys, with keys that lie just ahead of them and just behind.
func TestKeysAround(t *testing.T) {
	for _, k := range []key.Key{parse(t, "t/1/2/hello/de-AT"), raw(0x80, 0x80, 0x80, 0x80), raw([]byte("\x01\xff\xff\xff\xff\xff\xff\xff\xff\xff\xff\xff\xff\xff\xff\x01")...)} {
		for depth := 1; depth <= 5; depth++ {
			p, b := key.Prefix{Key: k, Depth: depth}, bytesOf(k)[:sizes[depth]]
			lowest, highest := raw(b...), full()
			for i := range 8 * sizes[depth] { // as the prefix up to there, and 255 beyond
				if digits(k)[i] == '0' {
					highest = turned(highest, i)
				}
			}
			inner := []key.Key{lowest, k, highest}
			outer := []key.Key{{}, full(), turned(lowest, 0), turned(highest, 8*sizes[depth]-1), ahead(lowest), after(highest)}
			for _, some := range [][]key.Key{nil, inner[:1], inner[1:2], inner[2:], inner} {
				x, m := holding(t, some...)
				checkTree(t, x, m, slices.Concat(inner, outer)...)
				for _, other := range outer {
					put(t, x, m, other, 0)
					if l, want := x.Keys(p), of(m.sorted(), p); !slices.Equal(l, want) || len(l) > len(some)+1 {
						t.Errorf("Keys of %s, %d: %s, not %s", show(k), depth, show(l...), show(want...))
					}
				}
				checkTree(t, x, m, inner...)
			}
		}
	}
}

// after: the key whose bytes are those of the next number; the last one's is the zero one.
func after(k key.Key) key.Key {
	b := bytesOf(k)
	for i := len(b) - 1; i >= 0; i-- {
		b[i]++
		if b[i] != 0 {
			break
		}
	}
	return raw(b...)
}

// ahead: the key whose bytes are those of the number ahead; the zero one's is the last one.
func ahead(k key.Key) key.Key {
	b := bytesOf(k)
	for i := len(b) - 1; i >= 0; i-- {
		b[i]--
		if b[i] != 255 {
			break
		}
	}
	return raw(b...)
}

// P11.2: other parts of a prefix's key don't matter.
func TestKeysOthers(t *testing.T) {
	x, m := holding(t, apart(t)...)
	sorted := m.sorted()
	for _, k := range apart(t) {
		for depth := range 6 {
			p := key.Prefix{Key: k, Depth: depth}
			want := x.Keys(p)
			for bit := range 200 {
				other := key.Prefix{Key: turned(k, bit), Depth: depth}
				l := x.Keys(other)
				if bit >= 8*sizes[depth] && !slices.Equal(l, want) || !slices.Equal(l, of(sorted, other)) {
					t.Errorf("Keys of %s, %d: %s", show(other.Key), depth, show(l...))
				}
			}
		}
	}
}

// P11.2: the key behind one that is there and one that isn't, ahead of the first, between two, of the last and behind it.
func TestNextWritten(t *testing.T) {
	x, _ := holding(t, parseAll(t, "t/0/1/a/de", "p/1", "s/0/1/b", "p/3", "l/0/de")...)
	for _, c := range [][2]string{{"p/0", "p/1"}, {"p/1", "p/3"}, {"p/2", "p/3"}, {"p/3", "l/0/de"}, {"g/0/0", "l/0/de"}, {"l/0/aa", "l/0/de"}, {"l/0/de", "s/0/1/b"}, {"l/0/de-AT", "s/0/1/b"}, {"b/0/0", "s/0/1/b"}, {"s/0/1/a", "s/0/1/b"}, {"s/0/1/b", "t/0/1/a/de"}, {"s/3/3/z", "t/0/1/a/de"}, {"t/0/0/z/zz", "t/0/1/a/de"}, {"t/0/1/a/aa", "t/0/1/a/de"}, {"t/0/1/a/de", ""}, {"t/0/1/a/de-AT", ""}, {"t/3/3/z/zz", ""}} {
		k, is := x.Next(parse(t, c[0]))
		if is != (c[1] != "") || k.Text() != c[1] || !is && k != (key.Key{}) {
			t.Errorf("Next of %s: %s, %t, not %s", c[0], show(k), is, c[1])
		}
	}
	if k, is := x.Next(key.Key{}); !is || k.Text() != "p/1" {
		t.Errorf("Next of the zero key: %s, %t", show(k), is)
	}
	if k, is := x.Next(full()); is || k != (key.Key{}) {
		t.Errorf("Next of the last key: %s, %t", show(k), is)
	}
	x.Put(key.Key{}, 0)
	if k, is := x.Next(key.Key{}); !is || k.Text() != "p/1" {
		t.Errorf("Next of the zero key that is there: %s, %t", show(k), is)
	}
	x.Put(full(), 0)
	if k, is := x.Next(parse(t, "t/0/1/a/de")); !is || k != full() {
		t.Errorf("Next of the last but one: %s, %t", show(k), is)
	}
	if k, is := x.Next(full()); is || k != (key.Key{}) {
		t.Errorf("Next of the last one that is there: %s, %t", show(k), is)
	}
}

// P11.2: of each key that is there, of those just ahead and just behind, and of those that differ in one bit.
func TestNextNear(t *testing.T) {
	l := slices.Concat(apart(t), wrong())
	x, m := holding(t, l...)
	sorted := m.sorted()
	for i, k := range sorted {
		if got, is := x.Next(ahead(k)); k != (key.Key{}) && (got != k || !is) {
			t.Errorf("Next of the one ahead of %s: %s, %t", show(k), show(got), is)
		}
		if got, is := x.Next(k); is != (i+1 < len(sorted)) || is && got != sorted[i+1] {
			t.Errorf("Next of %s: %s, %t", show(k), show(got), is)
		}
		for bit := range 200 {
			near := turned(k, bit)
			want, more := behind(sorted, near)
			if got, is := x.Next(near); got != want || is != more {
				t.Errorf("Next of %s: %s, %t, not %s, %t", show(near), show(got), is, show(want), more)
			}
		}
	}
}

// P11.2: the first one, behind each deletion of the first, of the last, and each key put ahead of it.
func TestFirst(t *testing.T) {
	l := slices.Concat(apart(t), wrong())
	x, m := holding(t, l...)
	for len(m) > 0 {
		sorted := m.sorted()
		del(t, x, m, sorted[0])
		checkWhole(t, x, m)
		if len(sorted) > 1 {
			del(t, x, m, sorted[len(sorted)-1])
			checkWhole(t, x, m)
		}
	}
	for i := range 200 { // each ahead of all that are there
		put(t, x, m, turned(key.Key{}, i), i)
		if k, is := x.First(); !is || k != turned(key.Key{}, i) {
			t.Errorf("First: %s, %t", show(k), is)
		}
	}
	put(t, x, m, key.Key{}, 0)
	if k, is := x.First(); !is || k != (key.Key{}) {
		t.Errorf("First: %s, %t", show(k), is)
	}
	del(t, x, m, key.Key{})
	checkTree(t, x, m, key.Key{}, full())
}

// P11.2: answers are new memory: what is done to them isn't seen in the tree or in one another.
func TestKeysMemory(t *testing.T) {
	x, m := holding(t, apart(t)...)
	p := key.Prefix{Key: parse(t, "t/0/1/a/de"), Depth: 1}
	a, b := x.Keys(p), x.Keys(p)
	want := slices.Clone(a)
	clear(a)
	_ = append(a[:1], full(), full())
	if !slices.Equal(b, want) || !slices.Equal(x.Keys(p), want) {
		t.Error("lists share memory")
	}
	k := parse(t, "p/0")
	bits, others := x.Branch(k), x.Branch(k)
	clear(bits)
	if !slices.Equal(others, m.branch(k)) {
		t.Error("lists of bits share memory")
	}
	l := apart(t)[:3]
	x.Del(l...)
	for _, k := range l {
		delete(m, k)
	}
	clear(l)
	checkTree(t, x, m, apart(t)...)
}
