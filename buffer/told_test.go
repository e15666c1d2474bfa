package buffer

import (
	"slices"
	"testing"

	"vulgate/key"
	"vulgate/name"
	"vulgate/store"
)

// orders gives each order of some numbers from 0 on.
func orders(many int, yield func([]int)) {
	var next func(l []int)
	next = func(l []int) {
		if len(l) == many {
			yield(l)
		}
		for n := range many {
			if !slices.Contains(l, n) {
				next(append(slices.Clone(l), n))
			}
		}
	}
	next(nil)
}

// P17.1, P17.2: writes and guarded keys are told in the order of their keys, whatever order they came in, at once or one by one; prefixes are told as they came.
func TestOrder(t *testing.T) {
	l := keys("p/0 g/0/0 l/0/de-AT s/0/0/b t/0/0/a/de")
	orders(len(l), func(order []int) {
		each, once := empty(), empty()
		var mixed []store.Write
		var guards []key.Key
		var in []key.Prefix
		for _, i := range order {
			w, p := store.Write{Key: l[i], Dead: i%2 == 1}, key.Prefix{Key: l[i], Depth: i}
			if !w.Dead {
				w.Rec = rec(l[i].Kind, i)
			}
			mixed, guards, in = append(mixed, w), append(guards, l[len(l)-1-i]), append(in, p)
			each.put(t, w)
			each.guard(t, guards[len(guards)-1])
			each.guardIn(t, p)
			each.check(t, l...)
		}
		once.put(t, mixed...)
		once.guardIn(t, in...)
		once.check(t, l...)
		guarded := empty()
		guarded.guard(t, guards...)
		guarded.check(t, l...)
		for i, w := range once.x.Writes() {
			if w.Key != l[i] {
				t.Errorf("of %s Writes: %s", show(mixed), show(once.x.Writes()))
			}
		}
		if got := guarded.x.Guards(); !slices.Equal(got, l) {
			t.Errorf("of %v Guards: %v", guards, got)
		}
		if got := once.x.Prefixes(); !slices.Equal(got, in) {
			t.Errorf("of %v Prefixes: %v", in, got)
		}
	})
}

// P17.1, P17.2, P17.3: keys that differ in one part alone are told in the order of their bytes.
func TestOrderParts(t *testing.T) {
	pairs := [][2]string{{"p/3", "g/0/0"}, {"g/3/15", "l/0/de"}, {"p/0", "p/1"}, {"g/0/9", "g/0/10"}, {"g/0/15", "g/1/0"}, {"b/0/3", "b/1/0"}, {"s/0/0/zz", "s/0/1/a"}, {"s/0/0/a", "s/0/0/aa"}, {"s/0/0/a", "s/0/0/a0"}, {"s/0/0/a0", "s/0/0/ab"}, {"l/0/de", "l/0/de-AT"}, {"l/0/de-AT", "l/0/de-Latn"}, {"l/0/zu", "l/0/aaa"}, {"t/0/0/a/zu", "t/0/0/b/de"}, {"t/0/0/a/de", "t/0/0/a/en"}}
	for _, p := range pairs {
		a, b := p[0], p[1]
		if byKey(of(a), of(b)) > 0 {
			a, b = b, a
		}
		for _, words := range []string{a + " " + b, b + " " + a} {
			x := empty()
			x.put(t, writes(1, words)...)
			if l := x.x.Writes(); !slices.Equal(l, writes(1, a+" "+b)) {
				t.Errorf("Writes of %s: %s", words, show(l))
			}
			y := empty()
			y.guard(t, keys(words)...)
			if l := y.x.Guards(); !slices.Equal(l, keys(a+" "+b)) {
				t.Errorf("Guards of %s: %v", words, l)
			}
		}
		for _, written := range []string{a, b} {
			other := a
			if written == a {
				other = b
			}
			x := empty()
			x.put(t, writes(1, written)...)
			if l := x.x.Over(entries(1, other), all()); !slices.Equal(l, entries(1, a+" "+b)) {
				t.Errorf("Over of %s, %s written: %s", other, written, showEntries(l))
			}
		}
	}
}

// P17.1: Writes and Len with each number of writes, and Get of each key that is written and each that isn't, right or not.
func TestMany(t *testing.T) {
	for many := range 17 {
		b := empty()
		b.put(t, firstWrites(many)...)
		if b.x.Len() != many || len(b.x.Writes()) != many {
			t.Errorf("Len: %d, %d Writes, not %d", b.x.Len(), len(b.x.Writes()), many)
		}
		for i, w := range b.x.Writes() {
			if w.Key != everyKind()[i] {
				t.Errorf("Writes of %d: %s", many, show(b.x.Writes()))
			}
		}
		for i, k := range everyKind() {
			if w, is := b.x.Get(k); is != (i < many) || is && w != (store.Write{Key: k, Rec: rec(k.Kind, 1)}) || !is && w != (store.Write{}) {
				t.Errorf("of %d Get(%v): %v, %t", many, k, w, is)
			}
		}
		b.checkAll(t)
	}
}

// P17.1: the write of a key is that of this very key, not of one that differs in one part.
func TestGetParts(t *testing.T) {
	for _, k := range everyKind() {
		b := empty()
		b.put(t, store.Write{Key: k, Dead: true})
		b.guard(t, k)
		for i := range key.Size {
			for n := 1; n < 256; n++ {
				row := k.Bytes()
				row[i] ^= byte(n)
				like, _ := key.Read(row)
				if w, is := b.x.Get(like); w != (store.Write{}) || is {
					t.Errorf("of %v Get(%v): %v, %t", k, like, w, is)
				}
			}
		}
		for _, like := range []key.Key{{Kind: k.Kind}, {Kind: k.Kind, Project: k.Project + 4, At: k.At, Name: k.Name, Tag: k.Tag}, {Kind: k.Kind, Project: k.Project, At: k.At + 16, Name: k.Name, Tag: k.Tag}, {Kind: k.Kind, Project: k.Project, At: k.At, Name: name.Name{'?'}, Tag: k.Tag}} {
			if like != k {
				b.checkGet(t, like)
			}
		}
		b.checkAll(t)
	}
}

// P17.1, P17.2, P17.3: lists are new memory each time, written into and added to.
func TestHandedOut(t *testing.T) {
	b := full(t)
	b.guard(t, everyKind()...)
	b.guardIn(t, prefixes("p/0:2 -:0 p/0:1 t/0/0/a/de:4")...)
	some := entries(4, "p/0 s/3/3/zz t/0/0/a/de")
	for range 3 {
		w, g, p, o := b.x.Writes(), b.x.Guards(), b.x.Prefixes(), b.x.Over(some, all())
		w2, g2, p2, o2 := b.x.Writes(), b.x.Guards(), b.x.Prefixes(), b.x.Over(some, all())
		_, _, _, _ = append(w, store.Write{}), append(g, key.Key{}), append(p, key.Prefix{}), append(o, store.Entry{})
		clear(w)
		clear(g)
		clear(p)
		clear(o)
		if !slices.Equal(w2, b.m.ordered()) || !slices.Equal(g2, b.m.guards()) || !slices.Equal(p2, b.m.prefixes) || !slices.Equal(o2, b.m.over(some, all())) {
			t.Error("lists that were handed out twice are one")
		}
		b.checkAll(t)
		if !slices.Equal(some, entries(4, "p/0 s/3/3/zz t/0/0/a/de")) {
			t.Errorf("handed in to Over: %s", showEntries(some))
		}
	}
	w, g, p, o := b.x.Writes(), b.x.Guards(), b.x.Prefixes(), b.x.Over(some, all())
	w2, g2, p2, o2 := slices.Clone(w), slices.Clone(g), slices.Clone(p), slices.Clone(o)
	b.put(t, writes(8, "p/0! p/1 g/0/0 g/0/15!")...)
	b.guard(t, keys("p/2 g/1/1 t/0/0/a/fr")...)
	b.guardIn(t, prefixes("p/1:2 -:1")...)
	if !slices.Equal(w, w2) || !slices.Equal(g, g2) || !slices.Equal(p, p2) || !slices.Equal(o, o2) {
		t.Error("lists that were handed out changed with the buffer")
	}
	b.checkAll(t)
}

// P17.1, P17.2, P17.3: asking changes nothing.
func TestAsked(t *testing.T) {
	for _, b := range []*bench{empty(), full(t)} {
		b.guard(t, keys("p/0 p/3 t/1/0/a/de")...)
		b.guardIn(t, prefixes("p/0:1 p/0:0")...)
		for range 3 {
			for _, k := range append(everyKind(), wrongKeys()...) {
				b.x.Get(k)
				b.x.Over([]store.Entry{{Key: k}, {Key: k}}, key.Prefix{Key: k, Depth: 3})
			}
			b.x.Copy()
			b.checkAll(t)
		}
	}
}
