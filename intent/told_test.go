package intent

import (
	"math"
	"slices"
	"testing"

	"vulgate/key"
	"vulgate/name"
)

// orders gives each order of some numbers from 0 on.
func orders(many int, yield func([]int) bool) {
	var next func(l []int) bool
	next = func(l []int) bool {
		if len(l) == many {
			return yield(l)
		}
		for n := range many {
			if !slices.Contains(l, n) && !next(append(slices.Clone(l), n)) {
				return false
			}
		}
		return true
	}
	next(nil)
}

// P16.2: keys are told in their order, whatever order they were taken in, at once or one by one, and dropped in.
func TestOrder(t *testing.T) {
	l := keys("p/0 g/0/0 l/0/de-AT s/0/0/b t/0/0/a/de")
	orders(len(l), func(order []int) bool {
		var at, once bench
		var mixed []key.Key
		for _, i := range order {
			mixed = append(mixed, l[i])
			at.take(t, 4, l[i])
			at.checkOwner(t, 4)
		}
		once.take(t, 4, mixed...)
		if all := once.x.Of(4); !slices.Equal(all, l) {
			t.Errorf("of %v Of: %v", mixed, all)
		}
		for _, k := range mixed {
			once.drop(t, 4, k)
			once.checkOwner(t, 4)
		}
		return true
	})
}

// P16.2: keys that differ in one part alone are told in the order of their bytes.
func TestOrderParts(t *testing.T) {
	pairs := [][2]string{{"p/3", "g/0/0"}, {"g/3/15", "l/0/de"}, {"p/0", "p/1"}, {"g/0/9", "g/0/10"}, {"g/0/15", "g/1/0"}, {"b/0/3", "b/1/0"}, {"s/0/0/zz", "s/0/1/a"}, {"s/0/0/a", "s/0/0/aa"}, {"s/0/0/a", "s/0/0/a0"}, {"s/0/0/a0", "s/0/0/ab"}, {"l/0/de", "l/0/de-AT"}, {"l/0/de-AT", "l/0/de-Latn"}, {"l/0/zu", "l/0/aaa"}, {"t/0/0/a/zu", "t/0/0/b/de"}, {"t/0/0/a/de", "t/0/0/a/en"}}
	for _, p := range pairs {
		a, b := of(p[0]), of(p[1])
		if key.Less(b, a) {
			a, b = b, a
		}
		for _, l := range [][]key.Key{{a, b}, {b, a}} {
			var x bench
			x.take(t, 1, l...)
			x.check(t)
			if got := x.x.Of(1); !slices.Equal(got, []key.Key{a, b}) {
				t.Errorf("Of(1) of %s, %s: %v", p[0], p[1], got)
			}
			if k, is := x.x.First(1); k != a || !is {
				t.Errorf("First(1) of %s, %s: %v, %t", p[0], p[1], k, is)
			}
		}
	}
}

// P16.2: owners are told rising, each once, whatever order they took their keys in, and go with the last of these.
func TestOwners(t *testing.T) {
	numbers, l := []int{1, 2, 10, 1 << 40, math.MaxInt}, keys("p/0 p/1 p/2 p/3 g/0/0 g/0/1 g/0/2 g/0/3 g/0/4 g/0/5")
	orders(len(numbers), func(order []int) bool {
		var b bench
		for n, i := range order {
			b.take(t, numbers[i], l[n], l[9-n])
			b.check(t, l...)
		}
		if all := b.x.Owners(); !slices.Equal(all, numbers) {
			t.Errorf("Owners: %d", all)
		}
		for n, i := range order {
			b.drop(t, numbers[i], l[n])
			b.check(t, l...)
			b.drop(t, numbers[i], l[9-n])
			b.check(t, l...)
		}
		return true
	})
}

// P16.2: each owner that may be is told with its keys, and no other one.
func TestOwnersAll(t *testing.T) {
	var b bench
	l := sorted()
	for i, owner := range owners() {
		b.take(t, owner, l[len(l)-1-i])
	}
	if all := b.x.Owners(); !slices.Equal(all, owners()) {
		t.Errorf("Owners: %d", all)
	}
	for i, owner := range owners() {
		if k, is := b.x.First(owner); k != l[len(l)-1-i] || !is {
			t.Errorf("First(%d): %v, %t", owner, k, is)
		}
	}
	for _, owner := range append(nobody(), 4, 62, 66, 254, 1<<31-1, 1<<31+1, 1<<32-1, math.MaxInt-2) {
		if got := b.x.Of(owner); len(got) != 0 {
			t.Errorf("Of(%d): %v", owner, got)
		}
		if k, is := b.x.First(owner); k != (key.Key{}) || is {
			t.Errorf("First(%d): %v, %t", owner, k, is)
		}
	}
	b.checkAll(t)
}

// P16.2: the owner of a key is that of this very key, not of one that differs in one part.
func TestOwnerParts(t *testing.T) {
	for _, k := range sorted() {
		var b bench
		b.take(t, 3, k)
		for i := range key.Size {
			for n := 1; n < 256; n++ {
				row := k.Bytes()
				row[i] ^= byte(n)
				like, _ := key.Read(row)
				if owner, is := b.x.Owner(like); owner != 0 || is {
					t.Errorf("of %v Owner(%v): %d, %t", k, like, owner, is)
				}
			}
		}
		for _, like := range []key.Key{{Kind: k.Kind}, {Kind: k.Kind, Project: k.Project + 4, At: k.At, Name: k.Name, Tag: k.Tag}, {Kind: k.Kind, Project: k.Project, At: k.At + 16, Name: k.Name, Tag: k.Tag}, {Kind: k.Kind, Project: k.Project, At: k.At, Name: name.Name{'?'}, Tag: k.Tag}} {
			if owner, is := b.x.Owner(like); like != k && (owner != 0 || is) {
				t.Errorf("of %v Owner(%v): %d, %t", k, like, owner, is)
			}
		}
		b.checkAll(t)
	}
}

// P16.1, P16.2: keys of kinds that are none are nobody's, and nobody's to take.
func TestOwnerKinds(t *testing.T) {
	for kind := range 256 {
		k := key.Key{Kind: uint8(kind)}
		if key.Right(k) {
			continue
		}
		var b bench
		b.take(t, 1, of("p/1"), k, of("p/2"))
		b.take(t, 2, k)
		b.check(t, k, of("p/2"))
	}
}

// P16.2: lists are new memory each time, written into and added to.
func TestHandedOut(t *testing.T) {
	var b bench
	b.take(t, 1, sorted()...)
	b.drop(t, 1, keys("p/0 t/0/0/a/de")...)
	b.take(t, 2, keys("t/0/0/a/de p/0")...)
	for range 3 {
		of1, again, all := b.x.Of(1), b.x.Of(1), b.x.Owners()
		for i := range of1 {
			of1[i] = key.Key{}
		}
		for i := range all {
			all[i] = -1
		}
		_ = append(of1, of("p/0"))
		_ = append(all, 9)
		if !slices.Equal(again, b.m.of(1)) {
			t.Errorf("Of(1), handed out twice: %v", again)
		}
		b.checkAll(t)
	}
	of1 := b.x.Of(1)
	want := slices.Clone(of1)
	b.drop(t, 1, sorted()...)
	b.take(t, 2, sorted()...)
	if !slices.Equal(of1, want) {
		t.Errorf("Of(1), behind Drop: %v", of1)
	}
}

// P16.1, P16.2: asking changes nothing.
func TestAsked(t *testing.T) {
	var b bench
	for _, k := range append(sorted(), wrong()...) {
		b.x.Owner(k)
	}
	for _, owner := range append(nobody(), owners()...) {
		b.x.Of(owner)
		b.x.First(owner)
	}
	b.checkAll(t)
	b.take(t, 1, sorted()...)
	b.checkAll(t)
	b.checkAll(t)
}
