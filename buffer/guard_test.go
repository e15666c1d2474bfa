package buffer

import (
	"slices"
	"testing"

	"vulgate/key"
)

// P17.2: how many keys are right, and weren't guarded, and which are guarded behind it; p/0 and p/1 are guarded ahead of it, p/2 and g/0/0 written.
func TestGuard(t *testing.T) {
	rows := []struct {
		guard  string
		many   int
		behind string // what Guards tells
	}{
		{"", 0, "p/0 p/1"},
		{"p/3", 1, "p/0 p/1 p/3"},
		{"p/3 g/0/1 l/0/de", 3, "p/0 p/1 p/3 g/0/1 l/0/de"},
		{"l/0/de g/0/1 p/3", 3, "p/0 p/1 p/3 g/0/1 l/0/de"},
		{"p/0", 0, "p/0 p/1"},
		{"p/1 p/0", 0, "p/0 p/1"},
		{"p/3 p/3", 1, "p/0 p/1 p/3"},
		{"p/3 p/0 p/3 g/0/1 p/1 g/0/1 p/3", 2, "p/0 p/1 p/3 g/0/1"},
		{"-", 0, "p/0 p/1"},
		{"- p/3", 1, "p/0 p/1 p/3"},
		{"p/3 - g/0/1 -", 2, "p/0 p/1 p/3 g/0/1"},
		{"p/2", 1, "p/0 p/1"},
		{"p/2 p/2 g/0/0", 2, "p/0 p/1"},
		{"g/0/0 p/3 - p/2 p/0", 3, "p/0 p/1 p/3"},
	}
	for _, r := range rows {
		b := empty()
		b.guard(t, keys("p/1 p/0")...)
		b.put(t, writes(1, "p/2 g/0/0!")...)
		if many := b.x.Guard(keys(r.guard)...); many != r.many {
			t.Errorf("Guard(%s): %d, not %d", r.guard, many, r.many)
		}
		if l := b.x.Guards(); !slices.Equal(l, keys(r.behind)) {
			t.Errorf("Guard(%s): behind it %v, not %s", r.guard, l, r.behind)
		}
		b.m.guard(keys(r.guard))
		b.checkAll(t)
		if many := b.x.Guard(keys(r.guard)...); many != 0 {
			t.Errorf("again Guard(%s): %d", r.guard, many)
		}
		b.checkAll(t)
	}
}

// P17.2: each key that isn't right is passed over, at each place of a call.
func TestGuardWrong(t *testing.T) {
	right := keys("t/0/0/a/de p/0 s/0/0/a g/0/0")
	for _, k := range wrongKeys() {
		for at := range len(right) + 1 {
			b := empty()
			if many := b.x.Guard(slices.Insert(slices.Clone(right), at, k)...); many != len(right) {
				t.Errorf("Guard with %v: %d", k, many)
			}
			if l := b.x.Guards(); !slices.Equal(l, keys("p/0 g/0/0 s/0/0/a t/0/0/a/de")) {
				t.Errorf("Guards with %v: %v", k, l)
			}
		}
	}
	b := empty()
	if many := b.x.Guard(wrongKeys()...); many != 0 {
		t.Errorf("Guard of wrong ones: %d", many)
	}
	b.checkAll(t)
}

// P17.2: keys that are written aren't told, dead or live, whether they were written ahead of their guard or behind it; they count as guarded all the same.
func TestGuardWritten(t *testing.T) {
	for _, word := range []string{"p/1", "p/1!"} {
		ahead, behind := empty(), empty()
		ahead.put(t, writes(1, word)...)
		if many := ahead.x.Guard(keys("p/2 p/1 p/0")...); many != 3 {
			t.Errorf("Guard: %d", many)
		}
		if many := behind.x.Guard(keys("p/2 p/1 p/0")...); many != 3 || !slices.Equal(behind.x.Guards(), keys("p/0 p/1 p/2")) {
			t.Errorf("Guard: %d, Guards: %v", many, behind.x.Guards())
		}
		behind.m.guard(keys("p/2 p/1 p/0"))
		behind.put(t, writes(1, word)...)
		for _, b := range []*bench{ahead, behind} {
			if l := b.x.Guards(); !slices.Equal(l, keys("p/0 p/2")) {
				t.Errorf("Guards: %v", l)
			}
			if many := b.x.Guard(keys("p/0 p/1 p/2")...); many != 0 {
				t.Errorf("Guard again: %d", many)
			}
		}
		behind.put(t, writes(1, "p/2 p/0!")...)
		if l := behind.x.Guards(); len(l) != 0 {
			t.Errorf("Guards of none but written ones: %v", l)
		}
		behind.checkAll(t)
	}
}

// P17.2: a key whose write was refused isn't written: it is told still.
func TestGuardRefused(t *testing.T) {
	b := full(t)
	b.guard(t, everyKind()...)
	for _, x := range wrongs(of("s/3/3/zz")) {
		b.put(t, x.w)
	}
	b.put(t, writes(1, "s/3/3/zz")...)
	if l := b.x.Guards(); !slices.Equal(l, everyKind()[16:]) {
		t.Errorf("Guards: %v", l)
	}
	b.checkAll(t)
}

// P17.2: prefixes of each depth from 0 to 5 are guarded, and no others, at each place of a call; what is guarded is told as it came.
func TestGuardIn(t *testing.T) {
	some := prefixes("p/1:2 p/0:0 s/0/0/a:3")
	for _, depth := range depths() {
		for at := range len(some) + 1 {
			for _, k := range append(everyKind(), wrongKeys()...) {
				if k == of("p/1") || k == of("p/0") || k == of("s/0/0/a") {
					continue
				}
				b := empty()
				l, many := slices.Insert(slices.Clone(some), at, key.Prefix{Key: k, Depth: depth}), 4
				want := l
				if depth < 0 || depth > 5 {
					want, many = some, 3
				}
				if n := b.x.GuardIn(l...); n != many {
					t.Errorf("GuardIn(%v): %d, not %d", l, n, many)
				}
				if got := b.x.Prefixes(); !slices.Equal(got, want) {
					t.Errorf("Prefixes: %v, not %v", got, want)
				}
				if n := b.x.GuardIn(l...); n != 0 || !slices.Equal(b.x.Prefixes(), want) {
					t.Errorf("again GuardIn(%v): %d, %v", l, n, b.x.Prefixes())
				}
			}
		}
	}
}

// P17.2: how many prefixes were new, and what is told behind it; p/1:2 and p/0:2 are guarded ahead of it.
func TestGuardInRows(t *testing.T) {
	rows := []struct {
		guard  string
		many   int
		behind string
	}{
		{"", 0, "p/1:2 p/0:2"},
		{"p/0:2", 0, "p/1:2 p/0:2"},
		{"p/0:2 p/1:2 p/0:2", 0, "p/1:2 p/0:2"},
		{"p/0:3", 1, "p/1:2 p/0:2 p/0:3"},
		{"p/0:1 p/0:0 p/0:5", 3, "p/1:2 p/0:2 p/0:1 p/0:0 p/0:5"},
		{"p/0:0 p/1:0 -:0", 3, "p/1:2 p/0:2 p/0:0 p/1:0 -:0"},
		{"p/3:2 p/2:2", 2, "p/1:2 p/0:2 p/3:2 p/2:2"},
		{"p/3:2 p/3:2 p/1:2 p/3:2", 1, "p/1:2 p/0:2 p/3:2"},
		{"-:0 -:0", 1, "p/1:2 p/0:2 -:0"},
		{"p/0:-1", 0, "p/1:2 p/0:2"},
		{"p/0:6", 0, "p/1:2 p/0:2"},
		{"p/0:6 p/2:5 p/0:-1 p/2:4 p/2:6", 2, "p/1:2 p/0:2 p/2:5 p/2:4"},
		{"t/0/0/a/de:1 t/0/0/b/de:1 t/0/0/a/de:2", 3, "p/1:2 p/0:2 t/0/0/a/de:1 t/0/0/b/de:1 t/0/0/a/de:2"},
	}
	for _, r := range rows {
		b := empty()
		b.guardIn(t, prefixes("p/1:2 p/0:2")...)
		if many := b.x.GuardIn(prefixes(r.guard)...); many != r.many {
			t.Errorf("GuardIn(%s): %d, not %d", r.guard, many, r.many)
		}
		if l := b.x.Prefixes(); !slices.Equal(l, prefixes(r.behind)) {
			t.Errorf("GuardIn(%s): behind it %v, not %s", r.guard, l, r.behind)
		}
		b.m.guardIn(prefixes(r.guard))
		b.checkAll(t)
	}
}

// P17.2: prefixes are told apart by their whole key, and the depth: any two that differ in one byte of their keys, also beyond the depth, or in their depths.
func TestGuardInParts(t *testing.T) {
	k := of("t/0/0/a/de")
	likes := []key.Key{k, {}, {Kind: 5, Project: k.Project, At: k.At, Name: k.Name, Tag: k.Tag}, {Kind: k.Kind, Project: 4, Name: k.Name, Tag: k.Tag}, {Kind: k.Kind, At: 255, Name: k.Name, Tag: k.Tag}}
	for i := range k.Name {
		like := k
		like.Name[i] ^= 1
		likes = append(likes, like)
	}
	for i := range k.Tag.Script {
		like := k
		like.Tag.Script[i] ^= 1
		likes = append(likes, like)
	}
	for i := range k.Tag.Region {
		like, other := k, k
		like.Tag.Region[i] ^= 1
		other.Tag.Lang[i] ^= 1
		likes = append(likes, like, other)
	}
	b := empty()
	var want []key.Prefix
	for depth := 5; depth >= 0; depth-- {
		for _, like := range likes {
			p := key.Prefix{Key: like, Depth: depth}
			want = append(want, p)
			if many := b.x.GuardIn(p, p); many != 1 {
				t.Errorf("GuardIn(%v): %d", p, many)
			}
		}
	}
	if l := b.x.Prefixes(); !slices.Equal(l, want) {
		t.Errorf("Prefixes: %v, not %v", l, want)
	}
	if many := b.x.GuardIn(want...); many != 0 {
		t.Errorf("GuardIn again: %d", many)
	}
}

// P17.2: keys and prefixes are guarded each by themselves, and writes change no prefix.
func TestGuardBoth(t *testing.T) {
	b := empty()
	b.guardIn(t, prefixes("p/0:5 p/1:5 -:0")...)
	if l := b.x.Guards(); len(l) != 0 {
		t.Errorf("Guards: %v", l)
	}
	if many := b.x.Guard(keys("p/1 p/0")...); many != 2 {
		t.Errorf("Guard: %d", many)
	}
	b.m.guard(keys("p/1 p/0"))
	b.checkAll(t)
	b.put(t, writes(1, "p/0 p/1!")...)
	if l := b.x.Prefixes(); !slices.Equal(l, prefixes("p/0:5 p/1:5 -:0")) {
		t.Errorf("Prefixes: %v", l)
	}
	b.checkAll(t)
}

// P17.2: what is handed in isn't kept or changed, nor is the room behind it.
func TestGuardHandedIn(t *testing.T) {
	const words, depths = "p/1 p/1 p/0 g/0/0 s/0/0/a", "p/1:2 p/1:2 p/0:6 p/0:1 -:0"
	l, in := keys(words), prefixes(depths)
	b := empty()
	b.guard(t, l[:3]...)
	b.guardIn(t, in[:3]...)
	b.guardIn(t, in[:4]...)
	if !slices.Equal(l, keys(words)) || !slices.Equal(in, prefixes(depths)) {
		t.Errorf("handed in: %v, %v", l, in)
	}
	for i := range l {
		l[i], in[i] = of("t/0/0/a/de"), key.Prefix{Depth: 3}
	}
	b.checkAll(t)
}
