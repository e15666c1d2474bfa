package crit

import (
	"slices"
	"testing"

	"vulgate/key"
)

// some are keys made by chance: right ones, wrong ones, and ones that differ from another one in few bits.
func (c *chance) some(t *testing.T, many int) []key.Key {
	l := mixed(c, slices.Concat(apart(t), wrong()))[:6]
	for len(l) < many {
		k := l[c.below(len(l))]
		for range 1 + c.below(3) {
			k = turned(k, c.below(200))
		}
		l = append(l, k)
	}
	return mixed(c, l)
}

// P11.1, P11.2, P11.3, P11.4: rows of Put and Del made by chance, against what the tree must hold.
func TestRows(t *testing.T) {
	var c chance
	for range 60 {
		keys := c.some(t, 8+c.below(25))
		x, m := New[int](), plain{}
		for step := range 120 {
			if c.below(5) < 3 {
				put(t, x, m, keys[c.below(len(keys))], c.below(1000))
			} else {
				var l []key.Key
				for range c.below(5) {
					l = append(l, keys[c.below(len(keys))])
				}
				del(t, x, m, l...)
			}
			checkWhole(t, x, m)
			if step%20 == 19 {
				checkTree(t, x, m, keys...)
			}
		}
	}
}

// P11.4: rows that end with the same keys and things: by one put each, and by puts, deletions and puts again in other orders.
func TestRowsSame(t *testing.T) {
	var c chance
	for range 100 {
		keys := c.some(t, 24)
		x, m := holding(t, keys[:16]...)
		del(t, x, m, keys[8:12]...)
		y, n := New[int](), plain{}
		for _, k := range mixed(&c, slices.Concat(keys, keys)) {
			put(t, y, n, k, c.below(100))
			del(t, y, n, mixed(&c, keys)[:c.below(6)]...)
		}
		for _, k := range mixed(&c, keys) {
			if v, is := m[k]; is {
				put(t, y, n, k, v)
			} else {
				del(t, y, n, k)
			}
		}
		checkTree(t, x, m, keys...)
		checkTree(t, y, m, keys...)
	}
}

// P1, P2, P11.1, P11.2: many keys, put and deleted in other orders, gone through by Next, twice.
func TestMany(t *testing.T) {
	var c chance
	var sorted []key.Key
	for at := range 256 {
		for n := range 256 {
			sorted = append(sorted, raw(6, byte(at), 0, 'a', byte(n)))
		}
	}
	for range 2 {
		x := New[int]()
		order := make([]int, len(sorted))
		for i := range order {
			order[i] = i
		}
		for _, i := range mixed(&c, order) {
			if !x.Put(sorted[i], i) {
				t.Fatalf("%s isn't new", show(sorted[i]))
			}
		}
		if l := Map(x, func(_ key.Key, v int) int { return v }); !slices.Equal(l, order) || x.Len() != len(sorted) {
			t.Fatal("Map isn't in order")
		}
		i := 0
		for k, is := x.First(); is; k, is = x.Next(k) {
			if i == len(sorted) || k != sorted[i] {
				t.Fatalf("%s at %d", show(k), i)
			}
			i++
		}
		if i != len(sorted) {
			t.Errorf("%d gone through", i)
		}
		if l := x.Keys(key.Prefix{Key: raw(6, 100), Depth: 2}); !slices.Equal(l, sorted[25600:25856]) {
			t.Errorf("%d of a prefix", len(l))
		}
		gone := mixed(&c, sorted)
		if many := x.Del(gone[1000:]...); many != len(sorted)-1000 || x.Len() != 1000 {
			t.Errorf("%d deleted, %d left", many, x.Len())
		}
		left := slices.SortedFunc(slices.Values(gone[:1000]), func(a, b key.Key) int { return slices.Compare(bytesOf(a), bytesOf(b)) })
		if l := x.Keys(key.Prefix{}); !slices.Equal(l, left) {
			t.Errorf("%d keys", len(l))
		}
		if many := x.Del(sorted...); many != 1000 || x.Len() != 0 || len(x.Keys(key.Prefix{})) != 0 {
			t.Errorf("%d deleted", many)
		}
	}
}
