package crit

import (
	"slices"
	"testing"

	"vulgate/key"
)

// P11.3: the first bit in which two keys' bytes are unlike, written out.
func TestDifferWritten(t *testing.T) {
	k := parse(t, "t/0/1/hello/de-AT")
	for _, c := range []struct {
		a, b key.Key
		want int
	}{
		{key.Key{}, key.Key{}, -1}, {full(), full(), -1}, {k, k, -1}, {raw(7, 9), raw(7, 9), -1},
		{parse(t, "p/0"), parse(t, "p/1"), 15}, {parse(t, "p/0"), parse(t, "p/2"), 14}, {parse(t, "p/0"), parse(t, "p/3"), 14}, {parse(t, "p/2"), parse(t, "p/3"), 15},
		{parse(t, "p/0"), parse(t, "g/0/0"), 6}, {parse(t, "p/3"), parse(t, "l/0/de"), 6}, {parse(t, "b/0/0"), parse(t, "s/0/0/a"), 7}, {parse(t, "p/0"), parse(t, "b/0/0"), 5},
		{parse(t, "g/0/0"), parse(t, "g/0/15"), 20}, {parse(t, "b/0/0"), parse(t, "b/0/1"), 23}, {parse(t, "s/0/1/a"), parse(t, "s/0/1/b"), 30}, {parse(t, "s/0/1/a"), parse(t, "s/0/1/a-"), 34},
		{k, parse(t, "t/0/1/hello/de-AU"), 191}, {k, parse(t, "t/0/1/hello/de"), 177}, {k, parse(t, "t/0/1/hello/fr"), 126},
		{key.Key{}, full(), 0}, {key.Key{}, turned(key.Key{}, 0), 0}, {key.Key{}, turned(key.Key{}, 199), 199}, {full(), turned(full(), 199), 199}, {key.Key{}, raw(0, 0, 0, 0, 0, 255), 40}, {key.Key{}, raw(0, 1, 255), 15}, {raw(128), raw(127), 0}, {raw(1), raw(2), 6},
	} {
		if got := Differ(c.a, c.b); got != c.want {
			t.Errorf("Differ of %s, %s: %d, not %d", show(c.a), show(c.b), got, c.want)
		}
		if got := Differ(c.b, c.a); got != c.want {
			t.Errorf("Differ of %s, %s: %d, not %d", show(c.b), show(c.a), got, c.want)
		}
	}
}

// P11.3: keys that differ in one bit, in two, and in several, each bit in turn; a key and itself; both orders.
func TestDiffer(t *testing.T) {
	for _, k := range slices.Concat(apart(t), wrong()) {
		if Differ(k, k) != -1 {
			t.Errorf("%s differs from itself at %d", show(k), Differ(k, k))
		}
		for i := range 200 {
			for j := i; j < 200; j++ {
				other := turned(k, i)
				if j > i {
					other = turned(k, i, j, 199)
				}
				if Differ(k, other) != i || Differ(other, k) != i {
					t.Fatalf("%s, %s: %d, %d, not %d", show(k), show(other), Differ(k, other), Differ(other, k), i)
				}
			}
		}
		for _, other := range slices.Concat(apart(t), wrong()) {
			if got := Differ(k, other); got != differ(k, other) {
				t.Errorf("%s, %s: %d, not %d", show(k), show(other), got, differ(k, other))
			}
		}
	}
}

// P11.3: the bits at which keys leave others, written out: of a key alone, of several at one bit, of one that isn't there.
func TestBranchWritten(t *testing.T) {
	x, _ := holding(t, parseAll(t, "p/0")...)
	check := func(s string, want ...int) {
		t.Helper()
		if l := x.Branch(parse(t, s)); !slices.Equal(l, want) {
			t.Errorf("Branch of %s: %v, not %v", s, l, want)
		}
	}
	check("p/0")
	check("p/1")
	x.Put(parse(t, "p/1"), 0)
	check("p/0", 15)
	check("p/1", 15)
	check("p/2")
	x.Put(parse(t, "p/3"), 0)
	check("p/0", 14, 15)
	check("p/1", 14, 15)
	check("p/3", 14)
	x.Put(parse(t, "p/2"), 0)
	check("p/0", 14, 15)
	check("p/3", 14, 15)
	for _, s := range []string{"t/0/1/a/de", "t/0/1/a/fr", "t/0/1/a/de-AT", "s/0/1/a"} {
		x.Put(parse(t, s), 0)
	}
	check("p/0", 5, 14, 15)
	check("s/0/1/a", 5, 6)
	check("t/0/1/a/de", 5, 6, 126, 177)
	check("t/0/1/a/de-AT", 5, 6, 126, 177)
	check("t/0/1/a/fr", 5, 6, 126)
	check("t/0/1/a/nl")
	check("g/0/0")
	x.Del(parse(t, "t/0/1/a/de"), parse(t, "p/0"))
	check("t/0/1/a/de")
	check("t/0/1/a/de-AT", 5, 6, 126)
	check("p/1", 5, 14)
	check("p/0")
}

// P1, P11.2, P11.3: keys of which each leaves the others at another bit, as deep as can be.
func TestBranchDeep(t *testing.T) {
	var l []key.Key // from the zero one on, each with one bit more
	for i, k := 0, (key.Key{}); i <= 200; i++ {
		l = append(l, k)
		if i < 200 {
			k = turned(k, i)
		}
	}
	var c chance
	for _, order := range [][]key.Key{l, mixed(&c, l), mixed(&c, l)} {
		x, m := holding(t, order...)
		checkTree(t, x, m)
		for i, k := range l {
			var want []int
			for bit := range min(i+1, 200) {
				want = append(want, bit)
			}
			if got := x.Branch(k); !slices.Equal(got, want) {
				t.Errorf("Branch of %s: %v, not %v", show(k), got, want)
			}
		}
		del(t, x, m, mixed(&c, l)[:100]...)
		checkTree(t, x, m, l...)
	}
}

// P11.3: of a key with others that leave it at each bit, one and then two at each: all numbers, each once, rising.
func TestBranchAll(t *testing.T) {
	var all []int
	for bit := range 200 {
		all = append(all, bit)
	}
	for _, k := range []key.Key{{}, full(), parse(t, "t/1/2/hello/de-AT")} {
		x, m := holding(t, k)
		for i := range 200 {
			put(t, x, m, turned(k, i*7%200), i)
		}
		if got := x.Branch(k); !slices.Equal(got, all) {
			t.Errorf("Branch of %s: %v", show(k), got)
		}
		for i := range 199 {
			put(t, x, m, turned(k, i*7%199, 199), i)
		}
		if got := x.Branch(k); !slices.Equal(got, all) {
			t.Errorf("Branch of %s: %v", show(k), got)
		}
		checkTree(t, x, m, k)
	}
}
