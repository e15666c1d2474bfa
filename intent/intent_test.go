package intent

import (
	"bytes"
	"math"
	"slices"
	"strings"
	"testing"

	"vulgate/api"
	"vulgate/key"
	"vulgate/name"
	"vulgate/tag"
)

// of is the key of a text; the zero key, of the text "-".
func of(s string) key.Key {
	if s == "-" {
		return key.Key{}
	}
	k, err := key.Parse(s)
	if err != api.OK {
		panic(s)
	}
	return k
}

// keys are those of a text's words.
func keys(s string) []key.Key {
	var l []key.Key
	for _, word := range strings.Fields(s) {
		l = append(l, of(word))
	}
	return l
}

// sorted are keys of all kinds, in order.
func sorted() []key.Key {
	return keys("p/0 p/1 p/3 g/0/0 g/0/15 g/2/1 l/0/de l/0/de-AT l/0/en l/3/de b/0/0 b/0/3 b/1/0 s/0/0/a s/0/0/b s/0/0/hello s/0/1/a s/3/3/zz t/0/0/a/de t/0/0/a/de-AT t/0/0/b/de t/0/3/a/de t/1/0/a/de t/3/3/zz/zu")
}

// wrong are keys that aren't right, each by another part.
func wrong() []key.Key {
	de, a := of("l/0/de").Tag, of("s/0/0/a").Name
	return []key.Key{
		{},
		{Kind: 7},
		{Kind: 255},
		{Project: 1},
		{Kind: key.Project, Project: 4},
		{Kind: key.Project, At: 1},
		{Kind: key.Project, Name: a},
		{Kind: key.Project, Tag: de},
		{Kind: key.Grant, At: 16},
		{Kind: key.Grant, Tag: de},
		{Kind: key.Locale},
		{Kind: key.Locale, At: 1, Tag: de},
		{Kind: key.Locale, Tag: tag.Tag{Region: de.Region, Lang: [3]byte{'D', 'e'}}},
		{Kind: key.Branch, At: 4},
		{Kind: key.Branch, Name: a},
		{Kind: key.Source},
		{Kind: key.Source, Name: a, Tag: de},
		{Kind: key.Source, Name: name.Name{0, 'a'}},
		{Kind: key.Source, At: 4, Name: a},
		{Kind: key.Trans, Name: a},
		{Kind: key.Trans, Tag: de},
		{Kind: key.Trans, Project: 255, Name: a, Tag: de},
	}
}

// owners are numbers that owners may have, rising.
func owners() []int {
	return []int{1, 2, 3, 63, 64, 65, 255, 256, 257, 1 << 31, 1 << 32, 1<<32 + 1, math.MaxInt - 1, math.MaxInt}
}

// nobody are numbers that no owner may have.
func nobody() []int {
	return []int{math.MinInt, math.MinInt + 1, -1 << 32, -1<<32 + 1, -256, -2, -1, 0}
}

// held is an intent.
type held struct {
	key   key.Key
	owner int
}

// plain is what a table must hold, by the chapter's words: its intents, as they were taken.
type plain []held

// at: where a key's intent is; -1 without one.
func (m plain) at(k key.Key) int {
	return slices.IndexFunc(m, func(h held) bool { return h.key == k })
}

// take: what Take must do and tell.
func (m *plain) take(owner int, l []key.Key) (int, api.Errno) {
	if owner < 1 {
		return 0, api.ErrRange
	}
	many := 0
	for _, k := range l {
		at := m.at(k)
		switch {
		case !key.Right(k):
			return many, api.ErrForm
		case at >= 0 && (*m)[at].owner != owner:
			return many, api.ErrConflict
		case at < 0:
			*m = append(*m, held{k, owner})
			many++
		}
	}
	return many, api.OK
}

// drop: what Drop must do and tell.
func (m *plain) drop(owner int, l []key.Key) int {
	was := len(*m)
	*m = slices.DeleteFunc(slices.Clone(*m), func(h held) bool { return h.owner == owner && slices.Contains(l, h.key) })
	return was - len(*m)
}

// of: what Of must tell.
func (m plain) of(owner int) []key.Key {
	var l []key.Key
	for _, h := range m {
		if h.owner == owner {
			l = append(l, h.key)
		}
	}
	slices.SortFunc(l, func(a, b key.Key) int {
		x, y := a.Bytes(), b.Bytes()
		return bytes.Compare(x[:], y[:])
	})
	return l
}

// owners: what Owners must tell.
func (m plain) owners() []int {
	var l []int
	for _, h := range m {
		l = append(l, h.owner)
	}
	slices.Sort(l)
	return slices.Compact(l)
}

// bench is a table, and what it must hold.
type bench struct {
	x Table
	m plain
}

// take has an owner take keys, and holds the answer against what it must be.
func (b *bench) take(t *testing.T, owner int, l ...key.Key) {
	t.Helper()
	want, wantErr := b.m.take(owner, l)
	if many, err := b.x.Take(owner, l...); many != want || err != wantErr {
		t.Errorf("Take(%d, %v): %d, %d, not %d, %d", owner, l, many, err, want, wantErr)
	}
}

// drop has an owner drop keys, and holds the answer against what it must be.
func (b *bench) drop(t *testing.T, owner int, l ...key.Key) {
	t.Helper()
	want := b.m.drop(owner, l)
	if many := b.x.Drop(owner, l...); many != want {
		t.Errorf("Drop(%d, %v): %d, not %d", owner, l, many, want)
	}
}

// checkOwner holds all that is told of an owner against what it must be.
func (b *bench) checkOwner(t *testing.T, owner int) {
	t.Helper()
	want := b.m.of(owner)
	if l := b.x.Of(owner); !slices.Equal(l, want) {
		t.Errorf("Of(%d): %v, not %v", owner, l, want)
	}
	var first key.Key
	if len(want) > 0 {
		first = want[0]
	}
	if k, is := b.x.First(owner); k != first || is != (len(want) > 0) {
		t.Errorf("First(%d): %v, %t, not %v", owner, k, is, first)
	}
}

// check holds all that is told of the table against what it must be: of all owners that have keys, some others, and some keys beside these.
func (b *bench) check(t *testing.T, others ...key.Key) {
	t.Helper()
	want := b.m.owners()
	if l := b.x.Owners(); !slices.Equal(l, want) {
		t.Errorf("Owners: %d, not %d", l, want)
	}
	for _, owner := range slices.Concat(want, []int{math.MinInt, -1, 0, 1, 2, 3, math.MaxInt}) {
		b.checkOwner(t, owner)
	}
	for _, h := range b.m {
		if owner, is := b.x.Owner(h.key); owner != h.owner || !is {
			t.Errorf("Owner(%v): %d, %t, not %d", h.key, owner, is, h.owner)
		}
	}
	for _, k := range others {
		if owner, is := b.x.Owner(k); is != (b.m.at(k) >= 0) || !is && owner != 0 {
			t.Errorf("Owner(%v): %d, %t", k, owner, is)
		}
	}
	if b.x.Len() != len(b.m) {
		t.Errorf("Len: %d, not %d", b.x.Len(), len(b.m))
	}
}

// checkAll is check, with all right keys of the tests and all wrong ones.
func (b *bench) checkAll(t *testing.T) {
	t.Helper()
	b.check(t, append(sorted(), wrong()...)...)
}

// chance tells numbers that look like chance, the same in each run.
type chance uint64

// below: a number from 0 up to, but not with, n.
func (c *chance) below(n int) int {
	*c = *c*6364136223846793005 + 1442695040888963407
	return int(uint64(*c) >> 33 % uint64(n))
}

// The tests' own keys are what they are said to be.
func TestKeys(t *testing.T) {
	l := sorted()
	for i, k := range l {
		if !key.Right(k) || i > 0 && !key.Less(l[i-1], k) {
			t.Errorf("%d: %v", i, k)
		}
	}
	for i, k := range wrong() {
		if key.Right(k) {
			t.Errorf("%d: %v", i, k)
		}
	}
}

// P16.1, P16.2: the chapter's example.
func TestExample(t *testing.T) {
	var x Table
	a, b, c := of("p/0"), of("p/1"), of("p/2")
	if n, err := x.Take(1, a, b); n != 2 || err != api.OK {
		t.Error(n, err)
	}
	if n, err := x.Take(2, c, b); n != 1 || err != api.ErrConflict {
		t.Error(n, err)
	}
	if owner, is := x.Owner(c); owner != 2 || !is {
		t.Error(owner, is)
	}
	if n := x.Drop(2, b, c); n != 1 {
		t.Error(n)
	}
	if l := x.Owners(); !slices.Equal(l, []int{1}) || x.Len() != 2 {
		t.Error(l, x.Len())
	}
}

// P16.1, P16.2: the zero Table has no intents, and each of its functions may be the first one called.
func TestZero(t *testing.T) {
	calls := []func(x *Table){
		func(x *Table) { x.Drop(1, sorted()...) },
		func(x *Table) { x.Drop(0, wrong()...) },
		func(x *Table) { x.Owner(of("p/0")) },
		func(x *Table) { x.Of(1) },
		func(x *Table) { x.First(1) },
		func(x *Table) { x.Owners() },
		func(x *Table) { x.Len() },
		func(x *Table) { x.Take(1) },
		func(x *Table) { x.Take(0, of("p/0")) },
		func(x *Table) { x.Take(1, key.Key{}) },
	}
	for _, call := range calls {
		var b bench
		call(&b.x)
		b.checkAll(t)
		b.take(t, 1, keys("p/1 p/0 g/0/0")...)
		b.checkAll(t)
	}
	var b bench
	b.checkAll(t)
}

// P16.3, P1: a nil table tells ErrState of each Take, right or wrong, and has nothing.
func TestNil(t *testing.T) {
	var x *Table
	for _, owner := range append(nobody(), owners()...) {
		for _, l := range [][]key.Key{nil, {}, sorted(), wrong(), keys("p/0"), keys("p/0 -"), keys("- p/0")} {
			if many, err := x.Take(owner, l...); many != 0 || err != api.ErrState {
				t.Errorf("Take(%d, %v): %d, %d", owner, l, many, err)
			}
			if many := x.Drop(owner, l...); many != 0 {
				t.Errorf("Drop(%d, %v): %d", owner, l, many)
			}
		}
		if l := x.Of(owner); len(l) != 0 {
			t.Errorf("Of(%d): %v", owner, l)
		}
		if k, is := x.First(owner); k != (key.Key{}) || is {
			t.Errorf("First(%d): %v, %t", owner, k, is)
		}
	}
	for _, k := range append(sorted(), wrong()...) {
		if owner, is := x.Owner(k); owner != 0 || is {
			t.Errorf("Owner(%v): %d, %t", k, owner, is)
		}
	}
	if l := x.Owners(); len(l) != 0 || x.Len() != 0 {
		t.Errorf("Owners: %d, Len: %d", l, x.Len())
	}
}

// P16.3: two tables have nothing in common.
func TestTwo(t *testing.T) {
	var one, other bench
	one.take(t, 1, sorted()...)
	other.checkAll(t)
	other.take(t, 2, sorted()...)
	one.drop(t, 1, keys("p/0 t/0/0/a/de")...)
	one.checkAll(t)
	other.checkAll(t)
}
