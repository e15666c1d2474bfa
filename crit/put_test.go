package crit

import (
	"errors"
	"maps"
	"slices"
	"testing"

	"vulgate/key"
)

// P11.1, P11.2, P11.3: a tree that holds nothing.
func TestNew(t *testing.T) {
	checkTree(t, New[int](), plain{}, slices.Concat(apart(t), wrong())...)
	x, y := New[int](), New[int]()
	x.Put(key.Key{}, 1)
	checkTree(t, x, plain{{}: 1}, wrong()...)
	checkTree(t, y, plain{}, wrong()...)
}

// P11.1, P11.2, P11.3: trees of one key and of two, right and wrong ones, in both orders.
func TestPutFew(t *testing.T) {
	l := slices.Concat(apart(t), wrong())
	for _, a := range l {
		x, m := holding(t, a)
		checkTree(t, x, m, l...)
		for _, b := range l {
			x, m := holding(t, a, b)
			checkTree(t, x, m, key.Key{}, full(), turned(a, 0), turned(a, 199), turned(b, 100))
		}
	}
}

// P11.1, P11.2, P11.3: trees of two and of three keys that differ in one bit, each in turn.
func TestPutOneBit(t *testing.T) {
	for _, k := range []key.Key{{}, full(), parse(t, "t/1/2/hello/de-AT"), raw(0xaa, 0x55, 0xaa, 0x55)} {
		for bit := range 200 {
			x, m := holding(t, k, turned(k, bit))
			checkTree(t, x, m, turned(k, (bit+1)%200), turned(k, bit, 199-bit), key.Key{}, full())
			put(t, x, m, turned(k, 199-bit), -1)
			checkTree(t, x, m, turned(k, bit, 199-bit))
			x, m = holding(t, turned(k, bit), turned(k, 199-bit), k)
			checkTree(t, x, m)
			del(t, x, m, turned(k, bit))
			checkTree(t, x, m, turned(k, bit))
		}
	}
}

// P11.1: a key that is put again with another thing isn't new, and the last thing is by it.
func TestPutAgain(t *testing.T) {
	l := slices.Concat(apart(t), wrong())
	x, m := holding(t, l...)
	for i, k := range l {
		if x.Put(k, -i) || x.Put(k, i*i+100) || x.Put(k, i*i+100) {
			t.Errorf("%s is new", show(k))
		}
		m[k] = i*i + 100
		checkWhole(t, x, m)
	}
	checkTree(t, x, m)
}

// P11.1: keys that aren't there, though they share all bits but one with one that is.
func TestGetNear(t *testing.T) {
	l := slices.Concat(apart(t), wrong())
	x, m := holding(t, l...)
	for _, k := range l {
		for bit := range 200 {
			near := turned(k, bit)
			want, there := m[near]
			if v, is := x.Get(near); v != want || is != there {
				t.Errorf("Get of %s: %d, %t, not %d, %t", show(near), v, is, want, there)
			}
		}
	}
	checkWhole(t, x, m)
}

// P11.1: none deleted, one, several, the same twice, ones that aren't there, all, and some put again.
func TestDel(t *testing.T) {
	l := slices.Concat(apart(t), wrong())
	none := []key.Key{raw(9), turned(l[0], 199), turned(l[7], 3), turned(full(), 77)}
	x, m := holding(t, l...)
	del(t, x, m)
	checkTree(t, x, m, none...)
	del(t, x, m, none...)
	checkTree(t, x, m, none...)
	del(t, x, m, l[3])
	checkTree(t, x, m, l[3])
	del(t, x, m, l[3])
	del(t, x, m, l[5], l[6], l[9])
	checkTree(t, x, m, l[5], l[6], l[9])
	del(t, x, m, l[12], l[12], l[13], l[12], l[13])
	checkTree(t, x, m, l[12], l[13])
	del(t, x, m, none[0], l[15], none[1], l[3], l[16], none[2], l[15], none[3])
	checkTree(t, x, m, l[15], l[16])
	put(t, x, m, l[12], 1000)
	put(t, x, m, l[3], 1001)
	checkTree(t, x, m, l...)
	del(t, x, m, slices.Concat(l, l, none)...)
	checkTree(t, x, m, l...)
	del(t, x, m, l...)
	for i, k := range l {
		put(t, x, m, k, -i)
	}
	checkTree(t, x, m, none...)
}

// P11.1: how many are told, written out.
func TestDelWritten(t *testing.T) {
	l := apart(t)
	x := New[string]()
	if x.Del() != 0 || x.Del(l...) != 0 || x.Len() != 0 {
		t.Error("something was deleted of nothing")
	}
	if !x.Put(l[0], "a") || !x.Put(l[1], "b") || x.Put(l[0], "c") || !x.Put(l[2], "") || x.Len() != 3 {
		t.Error("three keys")
	}
	if v, is := x.Get(l[0]); v != "c" || !is {
		t.Errorf("%q, %t", v, is)
	}
	if v, is := x.Get(l[2]); v != "" || !is {
		t.Errorf("%q, %t", v, is)
	}
	if many := x.Del(l[0], l[3], l[0], l[1]); many != 2 || x.Len() != 1 {
		t.Errorf("%d, %d left", many, x.Len())
	}
	if v, is := x.Get(l[0]); v != "" || is {
		t.Errorf("%q, %t", v, is)
	}
	if !x.Put(l[0], "d") || x.Len() != 2 || x.Del(l[2], l[0], l[2]) != 2 || x.Len() != 0 {
		t.Error("put again, and deleted again")
	}
}

// P11.1, P11.3: all choices of eight keys that differ in the first bit, the last one and others; each of them deleted from each.
func TestChoices(t *testing.T) {
	k := parse(t, "t/0/1/a/de")
	l := []key.Key{k, turned(k, 0), turned(k, 199), turned(k, 0, 199), turned(k, 100), turned(k, 7, 8), {}, full()}
	var c chance
	for choice := range 1 << len(l) {
		var some []key.Key
		for i := range l {
			if choice>>i&1 == 1 {
				some = append(some, l[i])
			}
		}
		x, m := holding(t, mixed(&c, some)...)
		checkTree(t, x, m, l...)
		for i := range l {
			v, there := m[l[i]]
			del(t, x, m, l[i])
			checkTree(t, x, m, l[i])
			if there {
				put(t, x, m, l[i], v)
			}
		}
		checkTree(t, x, m)
	}
}

// P11.1: things of any type, those that can't be compared among them, are the very ones that were put.
func TestThings(t *testing.T) {
	a, b := parse(t, "p/0"), parse(t, "p/1")
	n, err := 7, errors.New("an error")
	pointers, lists, funcs, any2, errs, none := New[*int](), New[[]int](), New[func() int](), New[any](), New[error](), New[struct{}]()
	pointers.Put(a, &n)
	pointers.Put(b, nil)
	if v, is := pointers.Get(a); v != &n || !is {
		t.Error("another pointer")
	}
	if v, is := pointers.Get(b); v != nil || !is {
		t.Error("no nil pointer")
	}
	l := []int{1, 2}
	lists.Put(a, nil)
	lists.Put(a, l)
	if v, is := lists.Get(a); !is || len(v) != 2 || &v[0] != &l[0] {
		t.Error("another list")
	}
	funcs.Put(a, nil)
	funcs.Put(a, func() int { return n })
	if v, is := funcs.Get(a); !is || v() != 7 {
		t.Error("another function")
	}
	if v, is := funcs.Get(b); v != nil || is {
		t.Error("a function that isn't there")
	}
	any2.Put(a, l)
	if any2.Put(a, l) || !any2.Put(b, map[string]int{"x": 1}) {
		t.Error("what can't be compared")
	}
	errs.Put(a, err)
	if v, is := errs.Get(a); v != err || !is {
		t.Error("another error")
	}
	if !none.Put(a, struct{}{}) || none.Put(a, struct{}{}) || none.Len() != 1 || none.Del(a) != 1 {
		t.Error("things of nothing")
	}
}

// P11.4: which calls made a tree isn't seen: five keys in all orders, with others put and deleted between them.
func TestSameKeys(t *testing.T) {
	k := parse(t, "s/0/1/b")
	l := []key.Key{k, turned(k, 0), turned(k, 199), turned(k, 15, 16), full()}
	others := []key.Key{{}, turned(k, 1), turned(k, 198), turned(full(), 199)}
	m := plain{}
	for i, k := range l {
		m[k] = i
	}
	var try func(ahead, left []int)
	try = func(ahead, left []int) {
		for i, n := range left {
			try(append(slices.Clone(ahead), n), slices.Delete(slices.Clone(left), i, i+1))
		}
		if len(left) > 0 {
			return
		}
		x, got := New[int](), plain{}
		for i, n := range ahead {
			put(t, x, got, others[i%4], -1)
			put(t, x, got, l[n], 99)
			put(t, x, got, l[ahead[0]], 98)
			del(t, x, got, others[i%4])
			put(t, x, got, l[n], n)
		}
		put(t, x, got, l[ahead[0]], ahead[0])
		if !maps.Equal(got, m) {
			t.Fatalf("%v, not %v", got, m)
		}
		checkTree(t, x, m, others...)
	}
	try(nil, []int{0, 1, 2, 3, 4})
}

// P1, P11.4: a nil tree, at each function.
func TestNil(t *testing.T) {
	var x *Tree[int]
	for range 3 {
		checkTree(t, x, nil, slices.Concat(apart(t), wrong())...)
		for _, k := range slices.Concat(apart(t), wrong()) {
			if x.Put(k, 1) || x.Del(k) != 0 || x.Del(k, k) != 0 || x.Del() != 0 || x.Len() != 0 {
				t.Errorf("something by %s", show(k))
			}
		}
	}
	if l := Map(x, func(key.Key, int) string { panic("asked") }); len(l) != 0 {
		t.Errorf("%v", l)
	}
	if v, is := (*Tree[func()])(nil).Get(key.Key{}); v != nil || is {
		t.Error("a function")
	}
}
