package buffer

import (
	"bytes"
	"fmt"
	"math"
	"slices"
	"strconv"
	"strings"
	"testing"

	"vulgate/api"
	"vulgate/key"
	"vulgate/record"
	"vulgate/store"
)

// of is the key of a text; the zero key, of the text "-".
func of(s string) key.Key {
	if s == "-" {
		return key.Key{}
	}
	k, err := key.Parse(s)
	if err != api.OK {
		panic(s)
	}
	return k
}

// keys are those of a text's words.
func keys(s string) []key.Key {
	var l []key.Key
	for _, word := range strings.Fields(s) {
		l = append(l, of(word))
	}
	return l
}

// everyKind is keys of all kinds, in order.
func everyKind() []key.Key {
	return keys("p/0 p/1 p/3 g/0/0 g/0/15 g/2/1 l/0/de l/0/de-AT l/0/en l/3/de b/0/0 b/0/3 b/1/0 s/0/0/a s/0/0/b s/0/0/hello s/0/1/a s/3/3/zz t/0/0/a/de t/0/0/a/de-AT t/0/0/b/de t/0/3/a/de t/1/0/a/de t/3/3/zz/zu")
}

// rec is a right record of a kind, of each small number another one, where the kind's fields let it be.
func rec(kind uint8, n int) record.Rec {
	r := record.Rec{Kind: kind}
	switch kind {
	case record.Project:
		r.User = uint8(n % 16)
	case record.Grant:
		r.Mask = uint8(1 + n%63)
	case record.Branch:
		r.Parent, r.State, r.At = uint8(n%4), uint8(n%2), uint64(n)
	case record.Source:
		r.Rev, r.Text = uint32(1+n), strconv.Itoa(n)
	case record.Trans:
		r.State, r.User, r.Rev, r.Text = 1+uint8(n%5), uint8(n%16), uint32(1+n), strconv.Itoa(n)
	}
	return r
}

// writes are those of a text's words, with the records of a number; dead, where a ! is behind the word, and the zero write, of the word "-".
func writes(n int, s string) []store.Write {
	var l []store.Write
	for _, word := range strings.Fields(s) {
		text, dead := strings.CutSuffix(word, "!")
		w := store.Write{Key: of(text), Dead: dead}
		if !dead {
			w.Rec = rec(w.Key.Kind, n)
		}
		l = append(l, w)
	}
	return l
}

// entries are those of the keys of a text's words, with the records of a number.
func entries(n int, s string) []store.Entry {
	var l []store.Entry
	for _, k := range keys(s) {
		l = append(l, store.Entry{Key: k, Rec: rec(k.Kind, n)})
	}
	return l
}

// prefixes are those of a text's words: a key, a colon, and a depth.
func prefixes(s string) []key.Prefix {
	var l []key.Prefix
	for _, word := range strings.Fields(s) {
		text, number, _ := strings.Cut(word, ":")
		depth, err := strconv.Atoi(number)
		if err != nil {
			panic(word)
		}
		l = append(l, key.Prefix{Key: of(text), Depth: depth})
	}
	return l
}

// all is the prefix that all keys are of.
func all() key.Prefix {
	return key.Prefix{}
}

// show tells writes as a text.
func show(l []store.Write) string {
	var words []string
	for _, w := range l[:min(len(l), 40)] {
		words = append(words, fmt.Sprintf("%q %t %v", w.Key.Text(), w.Dead, w.Rec))
	}
	return strings.Join(words, ", ")
}

// showEntries tells entries as a text.
func showEntries(l []store.Entry) string {
	var words []string
	for _, e := range l[:min(len(l), 40)] {
		words = append(words, fmt.Sprintf("%q %v", e.Key.Text(), e.Rec))
	}
	return strings.Join(words, ", ")
}

// byKey: which of two keys comes first, by their bytes.
func byKey(a, b key.Key) int {
	x, y := a.Bytes(), b.Bytes()
	return bytes.Compare(x[:], y[:])
}

// plain is what a buffer must hold, by the chapter's words: its writes, and its guards, as they came.
type plain struct {
	writes   []store.Write
	keys     []key.Key
	prefixes []key.Prefix
}

// at: where a key's write is; -1 without one.
func (m *plain) at(k key.Key) int {
	return slices.IndexFunc(m.writes, func(w store.Write) bool { return w.Key == k })
}

// weigh: a write's error, by itself.
func weigh(w store.Write) api.Errno {
	if !key.Right(w.Key) {
		return api.ErrForm
	}
	if w.Dead {
		if w.Rec != (record.Rec{}) {
			return api.ErrForm
		}
		return api.OK
	}
	if err := record.Check(w.Rec); err != api.OK {
		return err
	}
	if w.Rec.Kind != w.Key.Kind {
		return api.ErrKind
	}
	return api.OK
}

// put: what Put must do and tell.
func (m *plain) put(l []store.Write) (int, api.Errno) {
	many := 0
	for _, w := range l {
		if err := weigh(w); err != api.OK {
			return many, err
		}
		at := m.at(w.Key)
		if at < 0 && len(m.writes) == 16 {
			return many, api.ErrLong
		}
		if at < 0 {
			m.writes = append(m.writes, w)
		} else {
			m.writes[at] = w
		}
		many++
	}
	return many, api.OK
}

// guard: what Guard must do and tell.
func (m *plain) guard(l []key.Key) int {
	many := 0
	for _, k := range l {
		if key.Right(k) && !slices.Contains(m.keys, k) {
			m.keys = append(m.keys, k)
			many++
		}
	}
	return many
}

// guardIn: what GuardIn must do and tell.
func (m *plain) guardIn(l []key.Prefix) int {
	many := 0
	for _, p := range l {
		if 0 <= p.Depth && p.Depth <= 5 && !slices.Contains(m.prefixes, p) {
			m.prefixes = append(m.prefixes, p)
			many++
		}
	}
	return many
}

// ordered: what Writes must tell.
func (m *plain) ordered() []store.Write {
	l := slices.Clone(m.writes)
	slices.SortFunc(l, func(v, w store.Write) int { return byKey(v.Key, w.Key) })
	return l
}

// guards: what Guards must tell.
func (m *plain) guards() []key.Key {
	var l []key.Key
	for _, k := range m.keys {
		if m.at(k) < 0 {
			l = append(l, k)
		}
	}
	slices.SortFunc(l, byKey)
	return l
}

// over: what Over must tell.
func (m *plain) over(l []store.Entry, p key.Prefix) []store.Entry {
	var over []store.Entry
	for _, e := range l {
		if at := m.at(e.Key); at < 0 || !p.Has(e.Key) {
			over = append(over, e)
		}
	}
	for _, w := range m.writes {
		if p.Has(w.Key) && !w.Dead {
			over = append(over, store.Entry{Key: w.Key, Rec: w.Rec})
		}
	}
	slices.SortFunc(over, func(d, e store.Entry) int { return byKey(d.Key, e.Key) })
	return over
}

// clone: the same, in new memory.
func (m *plain) clone() plain {
	return plain{slices.Clone(m.writes), slices.Clone(m.keys), slices.Clone(m.prefixes)}
}

// bench is a buffer, and what it must hold.
type bench struct {
	x *Buffer
	m plain
}

// empty is a bench with the zero buffer.
func empty() *bench {
	return &bench{x: &Buffer{}}
}

// put puts writes, and holds the answer against what it must be.
func (b *bench) put(t *testing.T, l ...store.Write) {
	t.Helper()
	want, wantErr := b.m.put(l)
	if many, err := b.x.Put(l...); many != want || err != wantErr {
		t.Errorf("Put(%s): %d, %d, not %d, %d", show(l), many, err, want, wantErr)
	}
}

// guard guards keys, and holds the answer against what it must be.
func (b *bench) guard(t *testing.T, l ...key.Key) {
	t.Helper()
	want := b.m.guard(l)
	if many := b.x.Guard(l...); many != want {
		t.Errorf("Guard(%v): %d, not %d", l, many, want)
	}
}

// guardIn guards prefixes, and holds the answer against what it must be.
func (b *bench) guardIn(t *testing.T, l ...key.Prefix) {
	t.Helper()
	want := b.m.guardIn(l)
	if many := b.x.GuardIn(l...); many != want {
		t.Errorf("GuardIn(%v): %d, not %d", l, many, want)
	}
}

// over holds what Over tells against what it must be.
func (b *bench) over(t *testing.T, l []store.Entry, p key.Prefix) {
	t.Helper()
	want := b.m.over(l, p)
	if over := b.x.Over(l, p); !slices.Equal(over, want) {
		t.Errorf("Over(%s; %v) of %s: %s, not %s", showEntries(l), p, show(b.m.writes), showEntries(over), showEntries(want))
	}
}

// checkGet holds what Get tells of a key against what it must be.
func (b *bench) checkGet(t *testing.T, k key.Key) {
	t.Helper()
	var want store.Write
	at := b.m.at(k)
	if at >= 0 {
		want = b.m.writes[at]
	}
	if w, is := b.x.Get(k); w != want || is != (at >= 0) {
		t.Errorf("Get(%v): %v, %t, not %v, %t", k, w, is, want, at >= 0)
	}
}

// check holds all that is told of the buffer against what it must be: of the keys that are written, and some others.
func (b *bench) check(t *testing.T, others ...key.Key) {
	t.Helper()
	if l, want := b.x.Writes(), b.m.ordered(); !slices.Equal(l, want) {
		t.Errorf("Writes: %s, not %s", show(l), show(want))
	}
	if b.x.Len() != len(b.m.writes) {
		t.Errorf("Len: %d, not %d", b.x.Len(), len(b.m.writes))
	}
	if l, want := b.x.Guards(), b.m.guards(); !slices.Equal(l, want) {
		t.Errorf("Guards: %v, not %v", l, want)
	}
	if l := b.x.Prefixes(); !slices.Equal(l, b.m.prefixes) {
		t.Errorf("Prefixes: %v, not %v", l, b.m.prefixes)
	}
	for _, w := range b.m.writes {
		b.checkGet(t, w.Key)
	}
	for _, k := range others {
		b.checkGet(t, k)
	}
}

// checkAll is check, with all right keys of the tests and all wrong ones, and of what is seen over some entries.
func (b *bench) checkAll(t *testing.T) {
	t.Helper()
	b.check(t, append(everyKind(), wrongKeys()...)...)
	for _, p := range prefixes("-:0 p/0:1 s/0/0/a:3 t/0/0/a/de:4 t/0/0/a/de:5 p/0:-1 p/0:6") {
		b.over(t, nil, p)
		b.over(t, entries(7, "p/1 g/0/0 s/0/0/b t/0/0/a/de"), p)
	}
}

// chance tells numbers that look like chance, the same in each run.
type chance uint64

// below: a number from 0 up to, but not with, n.
func (c *chance) below(n int) int {
	*c = *c*6364136223846793005 + 1442695040888963407
	return int(uint64(*c) >> 33 % uint64(n))
}

// The tests' own keys are what they are said to be.
func TestKeys(t *testing.T) {
	l := everyKind()
	for i, k := range l {
		if !key.Right(k) || i > 0 && !key.Less(l[i-1], k) {
			t.Errorf("%d: %v", i, k)
		}
	}
	for i, k := range wrongKeys() {
		if key.Right(k) {
			t.Errorf("%d: %v", i, k)
		}
	}
}

// P17.1, P17.3: the chapter's example.
func TestExample(t *testing.T) {
	var x Buffer
	if n, err := x.Put(writes(1, "p/0 p/0! p/1")...); n != 3 || err != api.OK {
		t.Error(n, err)
	}
	if l := x.Writes(); !slices.Equal(l, writes(1, "p/0! p/1")) {
		t.Error(show(l))
	}
	want := slices.Concat(entries(1, "p/1"), entries(2, "p/2"))
	if l := x.Over(entries(2, "p/0 p/2"), all()); !slices.Equal(l, want) {
		t.Error(showEntries(l))
	}
}

// P17.1, P17.2, P17.3: the zero Buffer is empty, and each of its functions may be the first one called.
func TestZero(t *testing.T) {
	calls := []func(x *Buffer){
		func(x *Buffer) {},
		func(x *Buffer) { x.Put() },
		func(x *Buffer) { x.Put(store.Write{}) },
		func(x *Buffer) { x.Get(of("p/0")) },
		func(x *Buffer) { x.Writes() },
		func(x *Buffer) { x.Len() },
		func(x *Buffer) { x.Guard() },
		func(x *Buffer) { x.Guard(key.Key{}) },
		func(x *Buffer) { x.GuardIn() },
		func(x *Buffer) { x.GuardIn(key.Prefix{Depth: 6}) },
		func(x *Buffer) { x.Guards() },
		func(x *Buffer) { x.Prefixes() },
		func(x *Buffer) { x.Over(entries(1, "p/0"), all()) },
		func(x *Buffer) { x.Copy().Put(writes(1, "p/0")...) },
	}
	for _, call := range calls {
		b := empty()
		call(b.x)
		b.checkAll(t)
		b.put(t, writes(1, "p/1 p/0!")...)
		b.guard(t, keys("g/0/0 p/0")...)
		b.guardIn(t, prefixes("p/0:5 p/0:1")...)
		b.checkAll(t)
	}
}

// P17.4, P1: a nil buffer tells ErrState of each Put, right or wrong, has nothing, guards nothing, and Over tells the entries.
func TestNil(t *testing.T) {
	var x *Buffer
	for _, l := range [][]store.Write{nil, {}, {{}}, writes(1, "p/0"), writes(1, "p/0 -"), writes(1, "- p/0"), firstWrites(17)} {
		if many, err := x.Put(l...); many != 0 || err != api.ErrState {
			t.Errorf("Put(%s): %d, %d", show(l), many, err)
		}
	}
	for _, k := range append(everyKind(), wrongKeys()...) {
		if w, is := x.Get(k); w != (store.Write{}) || is {
			t.Errorf("Get(%v): %v, %t", k, w, is)
		}
	}
	if n := x.Guard() + x.Guard(everyKind()...) + x.Guard(wrongKeys()...); n != 0 {
		t.Errorf("Guard: %d", n)
	}
	if n := x.GuardIn() + x.GuardIn(all()) + x.GuardIn(prefixes("p/0:5 p/0:6 p/0:-1")...); n != 0 {
		t.Errorf("GuardIn: %d", n)
	}
	if x.Len() != 0 || len(x.Writes()) != 0 || len(x.Guards()) != 0 || len(x.Prefixes()) != 0 || x.Copy() != nil {
		t.Errorf("%d, %v, %v, %v, %v", x.Len(), x.Writes(), x.Guards(), x.Prefixes(), x.Copy())
	}
	for _, s := range []string{"", "p/0", "p/0 p/1 t/0/0/a/de", "p/1 p/0 p/1"} {
		for _, p := range prefixes("-:0 p/0:2 p/0:-1 p/0:6") {
			l := entries(3, s)
			over := x.Over(l, p)
			if !slices.Equal(over, l) {
				t.Errorf("Over(%s; %v): %s", s, p, showEntries(over))
			}
			clear(over)
			if !slices.Equal(l, entries(3, s)) {
				t.Errorf("Over(%s; %v) handed out what was handed in", s, p)
			}
		}
	}
}

// P17.1, P17.2: two buffers have nothing in common.
func TestTwo(t *testing.T) {
	one, other := empty(), empty()
	one.put(t, firstWrites(16)...)
	one.guard(t, everyKind()...)
	one.guardIn(t, prefixes("p/0:5 -:0")...)
	other.checkAll(t)
	other.put(t, writes(2, "p/0! t/0/0/a/de")...)
	other.guard(t, keys("p/1")...)
	other.guardIn(t, prefixes("p/1:2")...)
	one.checkAll(t)
	other.checkAll(t)
}

// firstWrites are so many live writes of the tests' keys, the last key first.
func firstWrites(many int) []store.Write {
	var l []store.Write
	for _, k := range everyKind()[:many] {
		l = append(l, store.Write{Key: k, Rec: rec(k.Kind, 1)})
	}
	slices.Reverse(l)
	return l
}

// depths are those that prefixes may have, and some that they may not.
func depths() []int {
	return []int{math.MinInt, math.MinInt32, -256, -6, -5, -2, -1, 0, 1, 2, 3, 4, 5, 6, 7, 25, 255, 256, 257, 1 << 32, 1<<32 + 1, math.MaxInt}
}
