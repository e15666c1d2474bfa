package intent

import (
	"math"
	"slices"
	"testing"

	"vulgate/api"
	"vulgate/key"
	"vulgate/name"
	"vulgate/tag"
)

// act does one of nine acts of three owners with two keys.
func (b *bench) act(t *testing.T, n int) {
	t.Helper()
	switch owner := n%3 + 1; n / 3 {
	case 0:
		b.take(t, owner, keys("p/1 p/0")...)
	case 1:
		b.take(t, owner, of("p/0"))
	default:
		b.drop(t, owner, of("p/0"))
	}
}

// P16.1, P16.2, P16.3: all rows of five of nine acts: one of three owners takes two keys or the first of them, or drops it.
func TestRowsAll(t *testing.T) {
	asked := keys("p/0 p/1 p/2 -")
	for n := range 9 * 9 * 9 * 9 * 9 {
		var b bench
		for i := n; i > 0; i /= 9 {
			b.act(t, i%9)
		}
		b.check(t, asked...)
	}
}

// pick is some of the tests' keys, now and then one that isn't right, and one twice.
func (c *chance) pick(rights, wrongs []key.Key) []key.Key {
	var l []key.Key
	for range c.below(6) {
		l = append(l, rights[c.below(len(rights))])
	}
	if len(l) > 0 && c.below(4) == 0 {
		l = append(l, l[c.below(len(l))])
	}
	if c.below(8) == 0 {
		l = slices.Insert(l, c.below(len(l)+1), wrongs[c.below(len(wrongs))])
	}
	return l
}

// P1, P16.1, P16.2, P16.3: rows of Take and Drop by several owners made by chance, in many orders, against what the table must hold.
func TestRows(t *testing.T) {
	rights, wrongs := sorted(), wrong()
	numbers := []int{1, 2, 3, 4, 1 << 33, math.MaxInt, 0, -1}
	var c chance
	told, dropped := map[api.Errno]int{}, 0
	for range 60 {
		var b bench
		for range 60 {
			owner, l := numbers[c.below(len(numbers))], c.pick(rights, wrongs)
			if c.below(2) == 0 {
				_, err := b.m.clone().take(owner, l)
				told[err]++
				b.take(t, owner, l...)
			} else {
				if c.below(3) == 0 {
					l = append(l, b.m.of(owner)...)
				}
				was := len(b.m)
				b.drop(t, owner, l...)
				dropped += was - len(b.m)
			}
			b.check(t, l...)
		}
		b.checkAll(t)
	}
	if told[api.OK] < 300 || told[api.ErrRange] < 300 || told[api.ErrForm] < 60 || told[api.ErrConflict] < 500 || dropped < 600 {
		t.Errorf("told %d, %d dropped", told, dropped)
	}
}

// clone: the same intents, in new memory.
func (m plain) clone() *plain {
	same := slices.Clone(m)
	return &same
}

// P2: the same calls in the same order have the same answers.
func TestSame(t *testing.T) {
	rights, wrongs := sorted(), wrong()
	rows := func() (Table, []int) {
		var x Table
		var c chance
		var l []int
		for range 300 {
			owner, some := c.below(5), c.pick(rights, wrongs)
			many, err := x.Take(owner, some...)
			l = append(l, many, int(err), x.Drop(c.below(5), c.pick(rights, wrongs)...))
		}
		return x, l
	}
	one, told := rows()
	for range 5 {
		other, again := rows()
		if !slices.Equal(told, again) || !slices.Equal(one.Owners(), other.Owners()) || one.Len() != other.Len() {
			t.Errorf("told %d, then %d", told, again)
		}
		for owner := range 6 {
			if !slices.Equal(one.Of(owner), other.Of(owner)) {
				t.Errorf("Of(%d): %v, then %v", owner, one.Of(owner), other.Of(owner))
			}
		}
	}
}

// many are all translations of one-letter names and two-letter tags of some letters, on all branches, the last one first.
func many() []key.Key {
	var l []key.Key
	for n := 4*4*26*26 - 1; n >= 0; n-- {
		l = append(l, key.Key{
			Kind:    key.Trans,
			Project: uint8(n / (4 * 26 * 26)),
			At:      uint8(n / (26 * 26) % 4),
			Name:    name.Name{'a' + byte(n/26%26)},
			Tag:     tag.Tag{Lang: [3]byte{'z', 'a' + byte(n%26)}},
		})
	}
	return l
}

// P1: many keys of many owners are taken, told and dropped.
func TestLarge(t *testing.T) {
	l := many()
	var x Table
	if n, err := x.Take(1, l...); n != len(l) || err != api.OK {
		t.Errorf("Take: %d, %d", n, err)
	}
	all := x.Of(1)
	slices.Reverse(all)
	if !slices.Equal(all, l) || x.Len() != len(l) {
		t.Errorf("Of(1): %d keys, Len: %d", len(all), x.Len())
	}
	if n := x.Drop(1, append(l, l...)...); n != len(l) || x.Len() != 0 {
		t.Errorf("Drop: %d, Len: %d", n, x.Len())
	}
	for i, k := range l {
		if n, err := x.Take(i/2+1, k); n != 1 || err != api.OK {
			t.Errorf("Take(%d, %v): %d, %d", i/2+1, k, n, err)
		}
	}
	if numbers := x.Owners(); len(numbers) != len(l)/2 || numbers[0] != 1 || numbers[len(numbers)-1] != len(l)/2 {
		t.Errorf("Owners: %d of them", len(numbers))
	}
	if n, err := x.Take(len(l)/2, l...); n != 0 || err != api.ErrConflict {
		t.Errorf("Take: %d, %d", n, err)
	}
}
