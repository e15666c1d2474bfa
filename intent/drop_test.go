package intent

import (
	"math"
	"slices"
	"testing"

	"vulgate/key"
)

// P16.1: Drop takes an owner's own keys from it, each once, and passes over all others.
func TestDrop(t *testing.T) {
	rows := []struct {
		owner int
		drop  string
		many  int
		of1   string // owner 1's keys behind it
		of2   string
	}{
		{1, "", 0, "p/0 p/1", "p/2"},
		{1, "p/0", 1, "p/1", "p/2"},
		{1, "p/1", 1, "p/0", "p/2"},
		{1, "p/0 p/1", 2, "", "p/2"},
		{1, "p/1 p/0", 2, "", "p/2"},
		{1, "p/0 p/0", 1, "p/1", "p/2"},
		{1, "p/0 p/1 p/0 p/1", 2, "", "p/2"},
		{1, "p/2", 0, "p/0 p/1", "p/2"},
		{1, "p/2 p/0", 1, "p/1", "p/2"},
		{1, "p/3", 0, "p/0 p/1", "p/2"},
		{2, "p/3", 0, "p/0 p/1", "p/2"},
		{1, "p/3 p/1 g/0/0", 1, "p/0", "p/2"},
		{1, "-", 0, "p/0 p/1", "p/2"},
		{1, "- p/0 -", 1, "p/1", "p/2"},
		{2, "p/0 p/1 p/2 p/3", 1, "p/0 p/1", ""},
		{2, "p/2 p/2", 1, "p/0 p/1", ""},
		{3, "p/0 p/1 p/2 p/3", 0, "p/0 p/1", "p/2"},
		{0, "p/0 p/1 p/2 p/3 g/0/0 -", 0, "p/0 p/1", "p/2"},
		{-1, "p/0 p/1 p/2 p/3 g/0/0 -", 0, "p/0 p/1", "p/2"},
		{-2, "p/2", 0, "p/0 p/1", "p/2"},
		{math.MinInt, "p/0 p/1 p/2 p/3 g/0/0 -", 0, "p/0 p/1", "p/2"},
		{math.MaxInt, "p/0 p/1 p/2 p/3 g/0/0 -", 0, "p/0 p/1", "p/2"},
		{1 + 1<<32, "p/0 p/1", 0, "p/0 p/1", "p/2"},
	}
	for _, r := range rows {
		b := others(t)
		if many := b.x.Drop(r.owner, keys(r.drop)...); many != r.many {
			t.Errorf("Drop(%d, %s): %d, not %d", r.owner, r.drop, many, r.many)
		}
		if l := b.x.Of(1); !slices.Equal(l, keys(r.of1)) {
			t.Errorf("Drop(%d, %s): %v is 1's, not %s", r.owner, r.drop, l, r.of1)
		}
		if l := b.x.Of(2); !slices.Equal(l, keys(r.of2)) {
			t.Errorf("Drop(%d, %s): %v is 2's, not %s", r.owner, r.drop, l, r.of2)
		}
		b.m.drop(r.owner, keys(r.drop))
		b.checkAll(t)
		if many := b.x.Drop(r.owner, keys(r.drop)...); many != 0 {
			t.Errorf("again Drop(%d, %s): %d", r.owner, r.drop, many)
		}
		b.checkAll(t)
	}
}

// P16.1: numbers that no owner may have drop nothing, whatever the table has, nor do other owners.
func TestDropNobody(t *testing.T) {
	all := append(sorted(), wrong()...)
	for _, full := range []bool{false, true} {
		var b bench
		if full {
			b.take(t, 5, sorted()...)
		}
		for _, owner := range append(nobody(), owners()...) {
			if many := b.x.Drop(owner, all...); many != 0 {
				t.Errorf("Drop(%d): %d", owner, many)
			}
		}
		b.checkAll(t)
	}
}

// P16.1, P16.2: all choices of an owner's five keys are dropped, the first, the last and all of them too; the other owner's stay.
func TestDropSome(t *testing.T) {
	own := keys("t/0/0/a/de p/0 s/0/0/b g/0/0 l/0/de-AT")
	for n := range 1 << len(own) {
		var b bench
		b.take(t, 2, keys("p/1 t/0/0/a/de-AT")...)
		b.take(t, 1, own...)
		var l []key.Key
		for i, k := range own {
			if n>>i&1 == 1 {
				l = append(l, k)
			}
		}
		b.drop(t, 1, l...)
		b.checkAll(t)
		b.take(t, 3, own...)
		b.checkAll(t)
		b.take(t, 1, l...)
		b.checkAll(t)
	}
}

// P16.1: what is handed in isn't kept or changed, nor is the room behind it.
func TestDropHandedIn(t *testing.T) {
	room := keys("p/1 p/1 g/0/0 s/0/0/a")
	var b bench
	b.take(t, 1, sorted()...)
	b.drop(t, 1, room[:3]...)
	if !slices.Equal(room, keys("p/1 p/1 g/0/0 s/0/0/a")) {
		t.Errorf("handed in: %v", room)
	}
	for i := range room {
		room[i] = of("t/0/0/a/de")
	}
	b.checkAll(t)
}
