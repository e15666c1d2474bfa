package crit

import (
	"slices"
	"testing"

	"vulgate/key"
)

// P11.2: what a function makes of no keys, of one, and of many, in their order, of any type; it is asked once of each.
func TestMap(t *testing.T) {
	asked := 0
	text := func(k key.Key, v int) string {
		asked++
		return k.Text() + string(rune('a'+v))
	}
	x := New[int]()
	if l := Map(x, text); len(l) != 0 || asked != 0 {
		t.Errorf("%v, asked %d times", l, asked)
	}
	x.Put(parse(t, "s/0/1/b"), 1)
	if l := Map(x, text); !slices.Equal(l, []string{"s/0/1/bb"}) || asked != 1 {
		t.Errorf("%v, asked %d times", l, asked)
	}
	x.Put(parse(t, "s/0/1/a"), 2)
	x.Put(parse(t, "t/0/0/a/de"), 3)
	x.Put(parse(t, "p/3"), 0)
	x.Put(parse(t, "s/0/1/b"), 4)
	if l := Map(x, text); !slices.Equal(l, []string{"p/3a", "s/0/1/ac", "s/0/1/be", "t/0/0/a/ded"}) || asked != 5 {
		t.Errorf("%v, asked %d times", l, asked)
	}
	if l := Map(x, func(key.Key, int) struct{} { return struct{}{} }); len(l) != 4 {
		t.Errorf("%d of nothing", len(l))
	}
	if l := Map(x, func(k key.Key, _ int) []byte { return nil }); len(l) != 4 || l[3] != nil {
		t.Errorf("%v", l)
	}
	if l := Map(x, func(k key.Key, v int) error { return nil }); len(l) != 4 {
		t.Errorf("%v", l)
	}
}

// P11.2: answers are new memory.
func TestMapMemory(t *testing.T) {
	x, m := holding(t, apart(t)...)
	a, b := Map(x, pairOf), Map(x, pairOf)
	want := slices.Clone(b)
	clear(a)
	_ = append(a[:1], a...)
	if !slices.Equal(b, want) {
		t.Error("lists share memory")
	}
	checkTree(t, x, m)
}

// P1, P11.2: a function that is nil, or panics at once or later, makes nothing; the tree stays.
func TestMapPanics(t *testing.T) {
	x, m := holding(t, apart(t)...)
	if l := Map[int, int](x, nil); len(l) != 0 {
		t.Errorf("%v", l)
	}
	if l := Map[int, int](New[int](), nil); len(l) != 0 {
		t.Errorf("%v", l)
	}
	if l := Map[int, int](nil, nil); len(l) != 0 {
		t.Errorf("%v", l)
	}
	for at := range len(m) {
		asked := 0
		l := Map(x, func(k key.Key, v int) int {
			if asked == at {
				panic(k)
			}
			asked++
			return v
		})
		if len(l) != 0 || asked != at {
			t.Errorf("%v, asked %d times", l, asked)
		}
	}
	if l := Map(x, func(k key.Key, v int) int { panic(nil) }); len(l) != 0 {
		t.Errorf("%v", l)
	}
	checkTree(t, x, m)
}

// P1, P11.2: a function that changes the tree is asked of what was there at the beginning, and its changes hold.
func TestMapChanges(t *testing.T) {
	x, m := holding(t, apart(t)...)
	var want []pair
	for _, k := range m.sorted() {
		want = append(want, pair{k, m[k]})
	}
	got := Map(x, func(k key.Key, v int) pair {
		put(t, x, m, after(k), -v) // one more behind it, which would have no end
		return pair{k, v}
	})
	if !slices.Equal(got, want) {
		t.Errorf("%v, not %v", got, want)
	}
	checkTree(t, x, m)
	old := Map(x, pairOf)
	got = Map(x, func(k key.Key, v int) pair {
		del(t, x, m, x.Keys(key.Prefix{})...)
		put(t, x, m, k, 1000)
		return pair{k, v}
	})
	if !slices.Equal(got, old) || len(m) != 1 {
		t.Errorf("%v, not %v", got, old)
	}
	checkTree(t, x, m, apart(t)...)
}
