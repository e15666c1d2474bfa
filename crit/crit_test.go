package crit

import (
	"fmt"
	"maps"
	"slices"
	"strings"
	"testing"

	"vulgate/api"
	"vulgate/key"
	"vulgate/name"
	"vulgate/tag"
)

// raw is the key of these bytes, right or not; those that lack are 0.
func raw(beginning ...byte) key.Key {
	var b [25]byte
	copy(b[:], beginning)
	return key.Key{Kind: b[0], Project: b[1], At: b[2], Name: name.Name(b[3:15]), Tag: tag.Tag{Lang: [3]byte(b[15:18]), Script: [4]byte(b[18:22]), Region: [3]byte(b[22:25])}}
}

// full is the key of 255 in each byte.
func full() key.Key {
	return raw([]byte(strings.Repeat("\xff", 25))...)
}

// turned is a key with some of its bits turned over.
func turned(k key.Key, numbers ...int) key.Key {
	b := bytesOf(k)
	for _, n := range numbers {
		b[n/8] ^= 0x80 >> (n % 8)
	}
	return raw(b...)
}

// bytesOf are a key's bytes, whatever it is.
func bytesOf(k key.Key) []byte {
	return slices.Concat([]byte{k.Kind, k.Project, k.At}, k.Name[:], k.Tag.Lang[:], k.Tag.Script[:], k.Tag.Region[:])
}

// parse is the key of a text.
func parse(t *testing.T, s string) key.Key {
	t.Helper()
	k, err := key.Parse(s)
	if err != api.OK {
		t.Fatalf("%s isn't a key", s)
	}
	return k
}

// parseAll are the keys of texts.
func parseAll(t *testing.T, texts ...string) []key.Key {
	t.Helper()
	var l []key.Key
	for _, s := range texts {
		l = append(l, parse(t, s))
	}
	return l
}

// show tells a key's text, or the bytes of one that isn't right.
func show(l ...key.Key) string {
	var texts []string
	for _, k := range l {
		if s := k.Text(); s != "" {
			texts = append(texts, s)
		} else {
			texts = append(texts, fmt.Sprintf("%x", bytesOf(k)))
		}
	}
	return strings.Join(texts, " ")
}

// plain is what a tree must hold, by the chapter's words.
type plain map[key.Key]int

// spelled are the bits of keys that were asked for, as digits.
var spelled = map[key.Key]string{}

// digits are a key's bits, as digits 0 and 1: keys come in their order, and differ where they do.
func digits(k key.Key) string {
	s, is := spelled[k]
	if !is {
		for _, c := range bytesOf(k) {
			s += fmt.Sprintf("%08b", c)
		}
		spelled[k] = s
	}
	return s
}

// differ: the first of two keys' digits that are unlike; -1, if none is.
func differ(a, b key.Key) int {
	x, y := digits(a), digits(b)
	for i := range x {
		if x[i] != y[i] {
			return i
		}
	}
	return -1
}

// sorted are the keys that are there, in order.
func (m plain) sorted() []key.Key {
	return slices.SortedFunc(maps.Keys(m), func(a, b key.Key) int { return strings.Compare(digits(a), digits(b)) })
}

// of are those of a prefix among sorted keys.
func of(sorted []key.Key, p key.Prefix) []key.Key {
	if p.Depth < 0 || p.Depth > 5 {
		return nil
	}
	beginning := digits(p.Key)[:8*[]int{0, 1, 2, 3, 15, 25}[p.Depth]]
	var l []key.Key
	for _, k := range sorted {
		if strings.HasPrefix(digits(k), beginning) {
			l = append(l, k)
		}
	}
	return l
}

// behind: the first of sorted keys behind one.
func behind(sorted []key.Key, k key.Key) (key.Key, bool) {
	for _, other := range sorted {
		if digits(other) > digits(k) {
			return other, true
		}
	}
	return key.Key{}, false
}

// branch: the bits at which a key leaves others.
func (m plain) branch(k key.Key) []int {
	if _, is := m[k]; !is {
		return nil
	}
	var l []int
	for other := range m {
		if other != k {
			l = append(l, differ(k, other))
		}
	}
	slices.Sort(l)
	return slices.Compact(l)
}

// pair is a key, and its thing.
type pair struct {
	k key.Key
	v int
}

// pairOf is what Map makes pairs by.
func pairOf(k key.Key, v int) pair {
	return pair{k, v}
}

// checkWhole holds what is told of a whole tree against what it must be.
func checkWhole(t *testing.T, x *Tree[int], m plain) {
	t.Helper()
	sorted := m.sorted()
	var pairs []pair
	for _, k := range sorted {
		pairs = append(pairs, pair{k, m[k]})
	}
	if got := Map(x, pairOf); !slices.Equal(got, pairs) {
		t.Errorf("Map: %v, not %v", got, pairs)
	}
	if x.Len() != len(m) {
		t.Errorf("Len: %d, not %d", x.Len(), len(m))
	}
	want, there := key.Key{}, len(sorted) > 0
	if there {
		want = sorted[0]
	}
	if k, is := x.First(); k != want || is != there {
		t.Errorf("First: %s, %t, not %s, %t", show(k), is, show(want), there)
	}
}

// checkKey holds what is told of a key, there or not, against what it must be.
func checkKey(t *testing.T, x *Tree[int], m plain, sorted []key.Key, k key.Key) {
	t.Helper()
	want, there := m[k]
	if v, is := x.Get(k); v != want || is != there {
		t.Errorf("Get of %s: %d, %t, not %d, %t", show(k), v, is, want, there)
	}
	after, more := behind(sorted, k)
	if got, is := x.Next(k); got != after || is != more {
		t.Errorf("Next of %s: %s, %t, not %s, %t", show(k), show(got), is, show(after), more)
	}
	if l := x.Branch(k); !slices.Equal(l, m.branch(k)) {
		t.Errorf("Branch of %s: %v, not %v", show(k), l, m.branch(k))
	}
	for depth := -1; depth <= 6; depth++ {
		p := key.Prefix{Key: k, Depth: depth}
		if l := x.Keys(p); !slices.Equal(l, of(sorted, p)) {
			t.Errorf("Keys of %s, %d: %s, not %s", show(k), depth, show(l...), show(of(sorted, p)...))
		}
	}
}

// checkTree holds all that is told of a tree, of its keys and of others, against what it must be.
func checkTree(t *testing.T, x *Tree[int], m plain, others ...key.Key) {
	t.Helper()
	checkWhole(t, x, m)
	sorted := m.sorted()
	for _, k := range slices.Concat(sorted, others) {
		checkKey(t, x, m, sorted, k)
	}
}

// put puts a thing by a key into a tree and into what it must hold.
func put(t *testing.T, x *Tree[int], m plain, k key.Key, v int) {
	t.Helper()
	_, was := m[k]
	m[k] = v
	if isNew := x.Put(k, v); isNew == was {
		t.Errorf("Put of %s, %d: %t", show(k), v, isNew)
	}
	if got, is := x.Get(k); got != v || !is || x.Len() != len(m) {
		t.Errorf("Put of %s, %d: Get is %d, %t, Len %d", show(k), v, got, is, x.Len())
	}
}

// del takes keys away from a tree and from what it must hold.
func del(t *testing.T, x *Tree[int], m plain, l ...key.Key) {
	t.Helper()
	want, was := 0, slices.Clone(l)
	for _, k := range l {
		if _, is := m[k]; is {
			delete(m, k)
			want++
		}
	}
	if many := x.Del(l...); many != want || x.Len() != len(m) {
		t.Errorf("Del of %s: %d, Len %d, not %d, %d", show(l...), many, x.Len(), want, len(m))
	}
	if !slices.Equal(l, was) {
		t.Errorf("Del made %s of %s", show(l...), show(was...))
	}
}

// holding is a tree that holds keys, with their places as their things, and what it must hold.
func holding(t *testing.T, l ...key.Key) (*Tree[int], plain) {
	t.Helper()
	x, m := New[int](), plain{}
	for i, k := range l {
		put(t, x, m, k, i+1)
	}
	return x, m
}

// chance tells numbers that look like chance, the same in each run.
type chance uint64

// below: a number below one that is above 0.
func (c *chance) below(n int) int {
	*c = *c*6364136223846793005 + 1442695040888963407
	return int(uint64(*c) >> 33 % uint64(n))
}

// mixed are things in another order.
func mixed[T any](c *chance, l []T) []T {
	l = slices.Clone(l)
	for i := range l {
		j := i + c.below(len(l)-i)
		l[i], l[j] = l[j], l[i]
	}
	return l
}

// apart are right keys of each kind, that differ early and late.
func apart(t *testing.T) []key.Key {
	return parseAll(t, "p/0", "p/1", "p/3", "g/0/0", "g/0/15", "g/3/7", "l/0/de", "l/0/de-AT", "l/1/deu", "l/1/zh-Hant-TW", "b/0/0", "b/0/3", "b/2/1", "s/0/1/a", "s/0/1/a-", "s/0/1/b", "s/1/1/hello.x_2-b", "t/0/1/a/de", "t/0/1/a/de-AT", "t/0/1/a/fr", "t/0/1/b/de", "t/0/2/a/de", "t/3/3/zzzzzzzzzzzz/zzz-Zzzz-ZZ")
}

// wrong are keys that aren't right, among them the zero one and one of 255 in each byte, some of which differ in one bit.
func wrong() []key.Key {
	return []key.Key{
		{}, full(), turned(key.Key{}, 0), turned(key.Key{}, 199), turned(full(), 0), turned(full(), 199), turned(full(), 1, 198), raw(7), raw(6, 1, 2), raw(1, 0, 1), raw(1, 4), raw(0, 0, 0, 1), raw(5, 0, 1, 'A'), raw(5, 0, 1, 'a', 0, 'b'), raw(128, 64, 32, 16, 8, 4, 2, 1), raw([]byte("\x03\x00\x00\x00\x00\x00\x00\x00\x00\x00\x00\x00\x00\x00\x00DE")...),
	}
}
