package buffer

import (
	"slices"
	"testing"

	"vulgate/api"
	"vulgate/key"
	"vulgate/store"
)

// act does one of eight acts.
func (b *bench) act(t *testing.T, n int) {
	t.Helper()
	switch n {
	case 0:
		b.put(t, writes(1, "p/1 p/0")...)
	case 1:
		b.put(t, writes(2, "p/0! - p/1!")...)
	case 2:
		b.put(t, writes(3, "p/1! p/1 p/2!")...)
	case 3:
		b.guard(t, keys("p/2 p/0")...)
	case 4:
		b.guard(t, keys("p/1 - p/0")...)
	case 5:
		b.guardIn(t, prefixes("p/1:1 p/0:2")...)
	case 6:
		b.guardIn(t, prefixes("p/0:2 p/0:6 p/0:1")...)
	case 7:
		*b = bench{x: b.x.Copy(), m: b.m.clone()}
	}
}

// P17.1, P17.2, P17.3: all rows of five of eight acts.
func TestRowsAll(t *testing.T) {
	asked, seen := keys("p/0 p/1 p/2 p/3 -"), entries(9, "p/0 p/2")
	for n := range 8 * 8 * 8 * 8 * 8 {
		b := empty()
		for i, rest := 0, n; i < 5; i, rest = i+1, rest/8 {
			b.act(t, rest%8)
		}
		b.check(t, asked...)
		b.over(t, seen, all())
	}
}

// writes are some of keys, by chance live or dead, now and then one that is wrong, and one key twice.
func (c *chance) writes(rights []key.Key, wrongs []wrong) []store.Write {
	var l []store.Write
	for range c.below(6) {
		w := store.Write{Key: rights[c.below(len(rights))], Dead: c.below(3) == 0}
		if !w.Dead {
			w.Rec = rec(w.Key.Kind, c.below(100))
		}
		l = append(l, w)
	}
	if c.below(8) == 0 {
		l = slices.Insert(l, c.below(len(l)+1), wrongs[c.below(len(wrongs))].w)
	}
	return l
}

// keys are some of keys by chance, now and then one that is wrong, and one twice.
func (c *chance) keys(rights, wrongs []key.Key) []key.Key {
	var l []key.Key
	for range c.below(5) {
		l = append(l, rights[c.below(len(rights))])
	}
	if len(l) > 0 && c.below(4) == 0 {
		l = append(l, l[c.below(len(l))])
	}
	if c.below(4) == 0 {
		l = slices.Insert(l, c.below(len(l)+1), wrongs[c.below(len(wrongs))])
	}
	return l
}

// prefixes are those of some keys by chance, of depths from -1 to 6.
func (c *chance) prefixes(rights, wrongs []key.Key) []key.Prefix {
	var l []key.Prefix
	for _, k := range c.keys(rights[:4], wrongs) {
		l = append(l, key.Prefix{Key: k, Depth: c.below(8) - 1})
	}
	return l
}

// entries are those of some keys by chance, in order.
func (c *chance) entries(rights []key.Key) []store.Entry {
	var l []store.Entry
	for _, k := range rights {
		if c.below(2) == 0 {
			l = append(l, store.Entry{Key: k, Rec: rec(k.Kind, c.below(100))})
		}
	}
	return l
}

// P1, P17.1, P17.2, P17.3: rows of Put, Guard and GuardIn made by chance, in many orders, against what the buffer and its copies must hold.
func TestRows(t *testing.T) {
	rights, wrong, refused := everyKind(), wrongKeys(), wrongs(of("s/0/0/b"))
	var c chance
	told, guarded := map[api.Errno]int{}, 0
	for n := range 200 {
		some := rights[:8+n%17]
		b := empty()
		var olds []*bench
		for range 60 {
			switch c.below(4) {
			case 0, 1:
				l := c.writes(some, refused)
				m := b.m.clone()
				_, err := m.put(l)
				told[err]++
				b.put(t, l...)
			case 2:
				was := len(b.m.keys) + len(b.m.prefixes)
				b.guard(t, c.keys(some, wrong)...)
				b.guardIn(t, c.prefixes(some, wrong)...)
				guarded += len(b.m.keys) + len(b.m.prefixes) - was
			default:
				p := key.Prefix{Key: some[c.below(len(some))], Depth: c.below(8) - 1}
				b.over(t, c.entries(some), p)
			}
			b.check(t, some...)
			if c.below(20) == 0 {
				olds, b = append(olds, b), copied(b)
			}
		}
		for _, old := range append(olds, b) {
			old.checkAll(t)
		}
	}
	if told[api.OK] < 2000 || told[api.ErrLong] < 300 || told[api.ErrForm] < 300 || told[api.ErrKind] < 20 || told[api.ErrRange] < 10 || guarded < 3000 {
		t.Errorf("told %d, %d guarded", told, guarded)
	}
}

// P2: the same calls in the same order have the same answers.
func TestSame(t *testing.T) {
	rights, wrong, refused := everyKind(), wrongKeys(), wrongs(of("s/0/0/b"))
	rows := func() (*Buffer, []int) {
		x := &Buffer{}
		var c chance
		var l []int
		for range 100 {
			many, err := x.Put(c.writes(rights, refused)...)
			l = append(l, many, int(err), x.Guard(c.keys(rights, wrong)...), x.GuardIn(c.prefixes(rights, wrong)...))
		}
		return x, l
	}
	one, told := rows()
	seen := entries(5, "p/0 p/1 p/3 s/0/0/a t/0/0/a/de")
	for range 10 {
		other, again := rows()
		if !slices.Equal(told, again) {
			t.Errorf("told %d, then %d", told, again)
		}
		if !slices.Equal(one.Writes(), other.Writes()) || !slices.Equal(one.Guards(), other.Guards()) || !slices.Equal(one.Prefixes(), other.Prefixes()) || !slices.Equal(one.Over(seen, all()), other.Over(seen, all())) {
			t.Error("buffers of the same calls tell unlike things")
		}
	}
}

// P1: very many keys and prefixes are guarded, the last ones first, and told.
func TestGuardLarge(t *testing.T) {
	var l []key.Key
	var in []key.Prefix
	for n := 4*4*26*26 - 1; n >= 0; n-- {
		k := of("s/0/0/a")
		k.Project, k.At, k.Name[0], k.Name[1] = uint8(n/(4*26*26)), uint8(n/(26*26)%4), 'a'+byte(n/26%26), 'a'+byte(n%26)
		l = append(l, k)
		for depth := range 6 {
			in = append(in, key.Prefix{Key: k, Depth: depth})
		}
	}
	var x Buffer
	if many := x.Guard(append(slices.Clone(l), l...)...); many != len(l) {
		t.Errorf("Guard: %d", many)
	}
	if many := x.GuardIn(append(slices.Clone(in), in...)...); many != len(in) {
		t.Errorf("GuardIn: %d", many)
	}
	if got := x.Prefixes(); !slices.Equal(got, in) {
		t.Errorf("Prefixes: %d", len(got))
	}
	slices.Reverse(l)
	if got := x.Guards(); !slices.Equal(got, l) {
		t.Errorf("Guards: %d", len(got))
	}
}
