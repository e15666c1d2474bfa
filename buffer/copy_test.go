package buffer

import (
	"testing"
)

// copied is a bench with a copy of another one's buffer, which must hold the same.
func copied(b *bench) *bench {
	return &bench{x: b.x.Copy(), m: b.m.clone()}
}

// P17.3: a copy of an empty buffer: what is put into one isn't seen in the other.
func TestCopyEmpty(t *testing.T) {
	b := empty()
	c := copied(b)
	if c.x == nil || c.x == b.x {
		t.Fatalf("Copy: %p of %p", c.x, b.x)
	}
	c.checkAll(t)
	c.put(t, writes(1, "p/0 p/1!")...)
	c.guard(t, keys("p/2 p/3")...)
	c.guardIn(t, prefixes("p/0:2 -:0")...)
	b.checkAll(t)
	c.checkAll(t)
	b.put(t, writes(2, "p/1 p/2")...)
	b.guard(t, keys("p/0 p/3")...)
	b.guardIn(t, prefixes("-:0 p/1:2")...)
	b.checkAll(t)
	c.checkAll(t)
}

// P17.3: a copy of a full buffer has the same writes and guards, of each kind; what is put into one behind it, in the place of another write too, isn't seen in the other.
func TestCopyFull(t *testing.T) {
	b := full(t)
	b.guard(t, everyKind()...)
	b.guardIn(t, prefixes("t/0/0/a/de:4 p/0:2 -:0 p/0:1")...)
	for range 3 {
		c := copied(b)
		c.checkAll(t)
		c.put(t, writes(7, "p/0! p/1 g/0/0! g/0/15 t/3/3/zz/zu")...)
		c.guard(t, keys("p/2 p/0 t/3/3/z/de")...)
		c.guardIn(t, prefixes("p/0:3 p/0:2 s/0/0/a:3")...)
		b.checkAll(t)
		c.checkAll(t)
		b.put(t, writes(8, "p/0 p/1! g/0/0 g/0/15!")...)
		b.guard(t, keys("p/2 g/1/1")...)
		b.guardIn(t, prefixes("p/3:2 p/0:3")...)
		b.checkAll(t)
		c.checkAll(t)
	}
}

// P17.3: buffers with writes alone, guarded keys alone, or guarded prefixes alone, and copies of them, are written into on both sides.
func TestCopyEach(t *testing.T) {
	fills := []func(b *bench){
		func(b *bench) { b.put(t, writes(1, "p/1 p/0!")...) },
		func(b *bench) { b.guard(t, keys("p/1 p/0")...) },
		func(b *bench) { b.guardIn(t, prefixes("p/1:2 p/0:1")...) },
	}
	acts := []func(b *bench){
		func(b *bench) { b.put(t, writes(2, "p/1! p/2 p/0")...) },
		func(b *bench) { b.guard(t, keys("p/1 p/2")...) },
		func(b *bench) { b.guardIn(t, prefixes("p/1:2 p/2:2")...) },
	}
	for _, fill := range fills {
		for _, first := range acts {
			for _, second := range acts {
				b := empty()
				fill(b)
				c := copied(b)
				first(b)
				b.checkAll(t)
				c.checkAll(t)
				second(c)
				b.checkAll(t)
				c.checkAll(t)
			}
		}
	}
}

// P17.3: copies of copies, some of which are written into.
func TestCopyRow(t *testing.T) {
	l := []*bench{empty()}
	for i, k := range everyKind()[:16] {
		b := l[i]
		b.put(t, firstWrites(i + 1)[0])
		b.guard(t, k, everyKind()[i+4])
		b.guardIn(t, prefixes("p/0:0 p/0:1 p/0:2 p/0:3 p/0:4 p/0:5")[:1+i%6]...)
		l = append(l, copied(b))
	}
	for i, b := range l {
		if b.x.Len() != min(i+1, 16) {
			t.Errorf("of the copy %d Len: %d", i, b.x.Len())
		}
		b.checkAll(t)
	}
}
