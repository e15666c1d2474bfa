package intent

import (
	"math"
	"slices"
	"testing"

	"vulgate/api"
	"vulgate/key"
)

// others is a table in which owner 1 has p/0 and p/1, owner 2 has p/2, and nobody has p/3 any more, which owner 2 had.
func others(t *testing.T) *bench {
	t.Helper()
	var b bench
	b.take(t, 1, keys("p/1 p/0")...)
	b.take(t, 2, keys("p/3 p/2")...)
	b.drop(t, 2, of("p/3"))
	return &b
}

// P16.1: an owner below 1 takes nothing: ErrRange, ahead of all that the keys have wrong; any other owner may take keys.
func TestTakeOwner(t *testing.T) {
	for _, owner := range nobody() {
		for _, s := range []string{"", "g/0/0", "g/0/0 g/0/1", "-", "g/0/0 -", "- g/0/0", "p/0", "p/0 -", "p/3"} {
			b := others(t)
			if many, err := b.x.Take(owner, keys(s)...); many != 0 || err != api.ErrRange {
				t.Errorf("Take(%d, %s): %d, %d", owner, s, many, err)
			}
			b.checkAll(t)
		}
	}
	for _, owner := range owners() {
		var x Table
		if many, err := x.Take(owner, keys("p/1 p/0")...); many != 2 || err != api.OK {
			t.Errorf("Take(%d): %d, %d", owner, many, err)
		}
		if has, is := x.Owner(of("p/0")); has != owner || !is {
			t.Errorf("Owner: %d, %t, not %d", has, is, owner)
		}
		if l := x.Owners(); !slices.Equal(l, []int{owner}) {
			t.Errorf("Owners: %d, not %d", l, owner)
		}
		b := others(t)
		b.take(t, owner, keys("g/0/0 p/3")...)
		b.checkAll(t)
	}
}

// P16.1, P16.3: how many keys are the owner's that weren't, the first error, and whose each key is behind it.
func TestTake(t *testing.T) {
	rows := []struct {
		owner int
		take  string
		many  int
		err   api.Errno
		of1   string // owner 1's keys behind it
		of2   string
	}{
		{1, "", 0, api.OK, "p/0 p/1", "p/2"},
		{3, "", 0, api.OK, "p/0 p/1", "p/2"},
		{1, "p/3", 1, api.OK, "p/0 p/1 p/3", "p/2"},
		{2, "p/3", 1, api.OK, "p/0 p/1", "p/2 p/3"},
		{1, "g/0/0 p/3 g/0/1", 3, api.OK, "p/0 p/1 p/3 g/0/0 g/0/1", "p/2"},
		{1, "p/0", 0, api.OK, "p/0 p/1", "p/2"},
		{1, "p/0 p/1 p/0", 0, api.OK, "p/0 p/1", "p/2"},
		{1, "p/3 p/3", 1, api.OK, "p/0 p/1 p/3", "p/2"},
		{1, "p/3 p/0 g/0/0 p/3 p/1 g/0/0", 2, api.OK, "p/0 p/1 p/3 g/0/0", "p/2"},
		{1, "p/2", 0, api.ErrConflict, "p/0 p/1", "p/2"},
		{2, "p/1", 0, api.ErrConflict, "p/0 p/1", "p/2"},
		{1, "p/2 p/3", 0, api.ErrConflict, "p/0 p/1", "p/2"},
		{1, "p/3 p/2 g/0/0", 1, api.ErrConflict, "p/0 p/1 p/3", "p/2"},
		{1, "p/3 g/0/0 p/2", 2, api.ErrConflict, "p/0 p/1 p/3 g/0/0", "p/2"},
		{1, "p/0 p/2", 0, api.ErrConflict, "p/0 p/1", "p/2"},
		{2, "p/2 p/3 p/3 p/0", 1, api.ErrConflict, "p/0 p/1", "p/2 p/3"},
		{1, "-", 0, api.ErrForm, "p/0 p/1", "p/2"},
		{1, "- p/3", 0, api.ErrForm, "p/0 p/1", "p/2"},
		{1, "p/3 - g/0/0", 1, api.ErrForm, "p/0 p/1 p/3", "p/2"},
		{1, "p/3 g/0/0 -", 2, api.ErrForm, "p/0 p/1 p/3 g/0/0", "p/2"},
		{1, "p/0 -", 0, api.ErrForm, "p/0 p/1", "p/2"},
		{1, "- p/2", 0, api.ErrForm, "p/0 p/1", "p/2"},
		{1, "p/2 -", 0, api.ErrConflict, "p/0 p/1", "p/2"},
		{1, "p/3 - p/2", 1, api.ErrForm, "p/0 p/1 p/3", "p/2"},
		{1, "p/3 p/2 -", 1, api.ErrConflict, "p/0 p/1 p/3", "p/2"},
		{3, "p/0", 0, api.ErrConflict, "p/0 p/1", "p/2"},
		{3, "p/3 p/0", 1, api.ErrConflict, "p/0 p/1", "p/2"},
		{math.MaxInt, "p/3 g/0/0 g/0/1", 3, api.OK, "p/0 p/1", "p/2"},
	}
	for _, r := range rows {
		b := others(t)
		if many, err := b.x.Take(r.owner, keys(r.take)...); many != r.many || err != r.err {
			t.Errorf("Take(%d, %s): %d, %d, not %d, %d", r.owner, r.take, many, err, r.many, r.err)
		}
		if l := b.x.Of(1); !slices.Equal(l, keys(r.of1)) {
			t.Errorf("Take(%d, %s): %v is 1's, not %s", r.owner, r.take, l, r.of1)
		}
		if l := b.x.Of(2); !slices.Equal(l, keys(r.of2)) {
			t.Errorf("Take(%d, %s): %v is 2's, not %s", r.owner, r.take, l, r.of2)
		}
		b.m.take(r.owner, keys(r.take))
		b.checkAll(t)
	}
}

// P16.1: each key that isn't right, at each place of a call: what is ahead of it is taken, what is behind it isn't.
func TestTakeWrong(t *testing.T) {
	right := keys("t/0/0/a/de p/0 s/0/0/a g/0/0")
	for _, k := range wrong() {
		for at := range len(right) + 1 {
			var b bench
			l := slices.Insert(slices.Clone(right), at, k)
			if many, err := b.x.Take(7, l...); many != at || err != api.ErrForm {
				t.Errorf("Take(%v): %d, %d, not %d", l, many, err, at)
			}
			b.m.take(7, l)
			b.check(t, l...)
		}
	}
}

// P16.1, P16.3: each key that another one has, at each place of a call; behind its owner's Drop the same call takes all that is left.
func TestTakeConflict(t *testing.T) {
	right := keys("t/0/0/a/de p/0 s/0/0/a g/0/0")
	for _, k := range keys("p/1 g/0/15 l/0/de b/0/3 s/0/1/a t/0/0/a/de-AT") {
		for at := range len(right) + 1 {
			var b bench
			b.take(t, 9, k)
			l := slices.Insert(slices.Clone(right), at, k)
			if many, err := b.x.Take(7, l...); many != at || err != api.ErrConflict {
				t.Errorf("Take(%v): %d, %d, not %d", l, many, err, at)
			}
			b.m.take(7, l)
			b.check(t, l...)
			b.drop(t, 7, k)
			b.take(t, 7, l...)
			b.drop(t, 9, k)
			if many, err := b.x.Take(7, l...); many != len(l)-at || err != api.OK {
				t.Errorf("again Take(%v): %d, %d, not %d", l, many, err, len(l)-at)
			}
			b.m.take(7, l)
			b.check(t, l...)
		}
	}
}

// P16.1, P16.3: of all keys, taken by one owner, each is another one's just behind its Drop.
func TestTakeDropped(t *testing.T) {
	var b bench
	b.take(t, 2, sorted()...)
	for _, k := range sorted() {
		for _, owner := range []int{1, 3, math.MaxInt} {
			b.take(t, owner, k)
			b.drop(t, owner, k)
		}
		if owner, is := b.x.Owner(k); owner != 2 || !is {
			t.Errorf("Owner(%v): %d, %t", k, owner, is)
		}
		b.drop(t, 2, k)
		if owner, is := b.x.Owner(k); owner != 0 || is {
			t.Errorf("Owner(%v) of a dropped key: %d, %t", k, owner, is)
		}
		b.take(t, 1, k)
		b.take(t, 2, k)
	}
	b.checkAll(t)
	if l := b.x.Of(1); !slices.Equal(l, sorted()) {
		t.Errorf("1 has %v", l)
	}
}

// P16.1: what is handed in isn't kept or changed, nor is the room behind it.
func TestTakeHandedIn(t *testing.T) {
	room := keys("p/1 p/0 g/0/0 s/0/0/a")
	var b bench
	l := room[:2]
	b.take(t, 1, l...)
	b.drop(t, 1, room[1:2]...)
	b.take(t, 1, l...)
	if !slices.Equal(room, keys("p/1 p/0 g/0/0 s/0/0/a")) {
		t.Errorf("handed in: %v", room)
	}
	for i := range room {
		room[i] = key.Key{Kind: 99}
	}
	b.checkAll(t)
}
