package sweep

import (
	"bytes"
	"math"
	"slices"
	"strconv"
	"strings"
	"testing"

	"vulgate/api"
	"vulgate/key"
	"vulgate/pins"
	"vulgate/record"
	"vulgate/store"
)

// of is the key of a text; the zero key, of an empty one.
func of(s string) key.Key {
	if s == "" {
		return key.Key{}
	}
	k, err := key.Parse(s)
	if err != api.OK {
		panic(s)
	}
	return k
}

// rec is a right record of a kind, of each small number another one, where the kind's fields let it be.
func rec(kind uint8, n int) record.Rec {
	r := record.Rec{Kind: kind}
	switch kind {
	case record.Project:
		r.User = uint8(n % 16)
	case record.Grant:
		r.Mask = uint8(1 + n%63)
	case record.Branch:
		r.Parent, r.At = uint8(n%4), uint64(1+n)
	case record.Source:
		r.Rev, r.Text = uint32(1+n), strconv.Itoa(n)
	case record.Trans:
		r.State, r.User, r.Rev, r.Text = 1+uint8(n%5), uint8(n%16), uint32(1+n), strconv.Itoa(n)
	}
	return r
}

// writes are those of the keys of a text's words, with the records of a number; dead, where a ! is behind the word.
func writes(n int, s string) []store.Write {
	var l []store.Write
	for _, word := range strings.Fields(s) {
		text, dead := strings.CutSuffix(word, "!")
		w := store.Write{Key: of(text), Dead: dead}
		if !dead {
			w.Rec = rec(w.Key.Kind, n)
		}
		l = append(l, w)
	}
	return l
}

// version is what a key became at a time.
type version struct {
	key  key.Key
	at   uint64
	dead bool
	rec  record.Rec
}

// plain is what a store, a table and a sweeper of both must hold, by the chapters' words: all keys' versions, in order of time, the times of pins by their numbers, and where the sweeper is.
type plain struct {
	last     uint64
	versions []version
	pins     map[int]uint64
	at       key.Key
	rounds   int
	gone     int
}

// of: a key's versions.
func (m plain) of(k key.Key) []version {
	var l []version
	for _, v := range m.versions {
		if v.key == k {
			l = append(l, v)
		}
	}
	return l
}

// keys: all that have versions, in order.
func (m plain) keys() []key.Key {
	var l []key.Key
	for _, v := range m.versions {
		l = append(l, v.key)
	}
	slices.SortFunc(l, func(a, b key.Key) int {
		x, y := a.Bytes(), b.Bytes()
		return bytes.Compare(x[:], y[:])
	})
	return slices.Compact(l)
}

// publish: what Publish of right writes must do.
func (m *plain) publish(l []store.Write) {
	m.last++
	for _, w := range l {
		m.versions = append(m.versions, version{w.Key, m.last, w.Dead, w.Rec})
	}
}

// seen: the newest of a key's versions up to a time; -1 without any.
func seen(l []version, time uint64) int {
	at := -1
	for i, v := range l {
		if v.at <= time {
			at = i
		}
	}
	return at
}

// read: what is seen of a key at a time.
func (m plain) read(k key.Key, time uint64) (record.Rec, bool) {
	l := m.of(k)
	i := seen(l, time)
	if i < 0 || l[i].dead {
		return record.Rec{}, false
	}
	return l[i].rec, true
}

// isPin: is there a pin of which something holds?
func (m plain) isPin(holds func(uint64) bool) bool {
	for _, time := range m.pins {
		if holds(time) {
			return true
		}
	}
	return false
}

// trim takes a key's versions away that aren't needed; how many went.
func (m *plain) trim(k key.Key) int {
	l := m.of(k)
	var left []version
	for i, v := range l {
		if i == len(l)-1 || m.isPin(func(pin uint64) bool { return seen(l, pin) == i }) {
			left = append(left, v)
		}
	}
	for len(left) > 0 && left[0].dead && !m.isPin(func(pin uint64) bool { return pin < left[0].at }) {
		left = left[1:]
	}
	m.versions = slices.DeleteFunc(slices.Clone(m.versions), func(v version) bool { return v.key == k && !slices.Contains(left, v) })
	return len(l) - len(left)
}

// step: what Step must do and tell.
func (m *plain) step() (key.Key, int, bool) {
	from := m.at.Bytes()
	for _, k := range m.keys() {
		if b := k.Bytes(); bytes.Compare(b[:], from[:]) > 0 {
			many := m.trim(k)
			m.at = k
			m.gone += many
			return k, many, true
		}
	}
	m.at = key.Key{}
	m.rounds++
	return key.Key{}, 0, false
}

// steps: what Steps must do and tell.
func (m *plain) steps(n int) int {
	all := 0
	for i := 0; i < n && i < 10000; i++ {
		_, many, _ := m.step()
		all += many
	}
	return all
}

// round: what Round must do and tell.
func (m *plain) round() int {
	all := 0
	m.at = key.Key{}
	for {
		_, many, is := m.step()
		all += many
		if !is {
			return all
		}
	}
}

// bench is a store, a table and a sweeper of both, and what they must hold.
type bench struct {
	s *store.Store
	p *pins.Table
	w *Sweeper
	m plain
}

// empty is a bench without records and pins.
func empty(t *testing.T) *bench {
	t.Helper()
	s, p := store.New(), &pins.Table{}
	w, err := New(s, p)
	if w == nil || err != api.OK {
		t.Fatalf("New: %v, %d", w, err)
	}
	return &bench{s, p, w, plain{pins: map[int]uint64{}}}
}

// holding is a bench in whose store the writes of some texts were published, one text at each time.
func holding(t *testing.T, texts ...string) *bench {
	t.Helper()
	b := empty(t)
	for _, text := range texts {
		b.publish(t, text)
	}
	return b
}

// publish publishes the writes of a text, with the records of the time.
func (b *bench) publish(t *testing.T, text string) {
	t.Helper()
	b.put(t, writes(int(b.m.last), text))
}

// put publishes right writes.
func (b *bench) put(t *testing.T, l []store.Write) {
	t.Helper()
	b.m.publish(l)
	if time, err := b.s.Publish(l...); time != b.m.last || err != api.OK {
		t.Fatalf("Publish: %d, %d", time, err)
	}
}

// pin pins some times.
func (b *bench) pin(t *testing.T, times ...uint64) {
	t.Helper()
	for _, time := range times {
		id, err := b.p.Pin(time)
		if _, is := b.m.pins[id]; is || err != api.OK {
			t.Fatalf("Pin(%d): %d, %d", time, id, err)
		}
		b.m.pins[id] = time
	}
}

// unpin takes away pins of some numbers.
func (b *bench) unpin(t *testing.T, l ...int) {
	t.Helper()
	before := len(b.m.pins)
	for _, id := range l {
		delete(b.m.pins, id)
	}
	if many := b.p.Unpin(l...); many != before-len(b.m.pins) {
		t.Fatalf("Unpin(%d): %d", l, many)
	}
}

// step takes a step.
func (b *bench) step(t *testing.T) {
	t.Helper()
	want, wantMany, there := b.m.step()
	if k, many, is := b.w.Step(); k != want || many != wantMany || is != there {
		t.Errorf("Step: %q, %d, %t, not %q, %d, %t", k.Text(), many, is, want.Text(), wantMany, there)
	}
	b.look(t)
}

// steps takes so many.
func (b *bench) steps(t *testing.T, n int) {
	t.Helper()
	want := b.m.steps(n)
	if many := b.w.Steps(n); many != want {
		t.Errorf("Steps(%d): %d, not %d", n, many, want)
	}
	b.look(t)
}

// round takes a round.
func (b *bench) round(t *testing.T) {
	t.Helper()
	want := b.m.round()
	if many := b.w.Round(); many != want {
		t.Errorf("Round: %d, not %d", many, want)
	}
	b.look(t)
}

// look holds what the sweeper tells of itself against what it must be.
func (b *bench) look(t *testing.T) {
	t.Helper()
	if k := b.w.Stands(); k != b.m.at {
		t.Errorf("Stands: %q, not %q", k.Text(), b.m.at.Text())
	}
	if many := b.w.Rounds(); many != b.m.rounds {
		t.Errorf("Rounds: %d, not %d", many, b.m.rounds)
	}
	if many := b.w.Gone(); many != b.m.gone {
		t.Errorf("Gone: %d, not %d", many, b.m.gone)
	}
}

// check holds all that is told of the sweeper, its store and its pins against what it must be.
func (b *bench) check(t *testing.T) {
	t.Helper()
	b.look(t)
	whole := key.Prefix{}
	if l := b.s.Keys(whole); !slices.Equal(l, b.m.keys()) || b.s.Versions(whole) != len(b.m.versions) || b.s.Last() != b.m.last {
		t.Errorf("Keys: %v, Versions: %d, Last: %d, not %v, %d, %d", l, b.s.Versions(whole), b.s.Last(), b.m.keys(), len(b.m.versions), b.m.last)
	}
	for _, k := range b.m.keys() {
		if many := b.s.Versions(key.Prefix{Key: k, Depth: 5}); many != len(b.m.of(k)) {
			t.Errorf("%q has %d versions, not %d", k.Text(), many, len(b.m.of(k)))
		}
		for _, time := range b.m.times() {
			want, there := b.m.read(k, time)
			if r, is := b.s.Read(k, time); r != want || is != there {
				t.Errorf("%q at %d: %+v, %t, not %+v, %t", k.Text(), time, r, is, want, there)
			}
		}
	}
	if b.p.Len() != len(b.m.pins) {
		t.Errorf("%d pins, not %d", b.p.Len(), len(b.m.pins))
	}
	for id, time := range b.m.pins {
		if at, is := b.p.At(id); at != time || !is {
			t.Errorf("the pin %d: %d, %t, not %d", id, at, is, time)
		}
	}
}

// times are all up to one behind the last, and some far behind.
func (m plain) times() []uint64 {
	l := []uint64{1 << 63, math.MaxUint64}
	for time := range m.last + 2 {
		l = append(l, time)
	}
	return l
}

// chance tells numbers that look like chance, the same in each run.
type chance uint64

// below: a number below one that is above 0.
func (c *chance) below(n int) int {
	*c = *c*6364136223846793005 + 1442695040888963407
	return int(uint64(*c) >> 33 % uint64(n))
}

// P15.1: New of a nil store, of a nil table, of both, and of neither.
func TestNew(t *testing.T) {
	for n := range 4 {
		var s *store.Store
		var p *pins.Table
		if n&1 == 1 {
			s = store.New()
		}
		if n&2 == 2 {
			p = &pins.Table{}
		}
		w, err := New(s, p)
		if n == 3 && (w == nil || err != api.OK) || n < 3 && (w != nil || err != api.ErrArg) {
			t.Errorf("New of %t, %t: %v, %d", s != nil, p != nil, w, err)
		}
	}
}

// P15.1: New changes neither the store nor the table, and a sweeper stands at the zero key, without rounds; of a store and a table that are full of things too.
func TestNewStands(t *testing.T) {
	b := holding(t, "p/0 s/0/0/a", "p/0", "s/0/0/a!")
	b.pin(t, 1, 2, 1)
	for range 3 {
		w, err := New(b.s, b.p)
		if err != api.OK || w.Stands() != (key.Key{}) || w.Rounds() != 0 || w.Gone() != 0 {
			t.Errorf("New: %d, Stands: %v, Rounds: %d, Gone: %d", err, w.Stands(), w.Rounds(), w.Gone())
		}
		b.check(t)
	}
}

// P1, P15.2: a nil sweeper, whatever it is asked, and again.
func TestNil(t *testing.T) {
	var w *Sweeper
	for range 3 {
		if k, many, is := w.Step(); k != (key.Key{}) || many != 0 || is {
			t.Errorf("Step: %v, %d, %t", k, many, is)
		}
		for _, n := range []int{math.MinInt, -1, 0, 1, 2, 9999, 10000, 10001, math.MaxInt} {
			if many := w.Steps(n); many != 0 {
				t.Errorf("Steps(%d): %d", n, many)
			}
		}
		if many := w.Round(); many != 0 {
			t.Errorf("Round: %d", many)
		}
		if k := w.Stands(); k != (key.Key{}) || w.Rounds() != 0 || w.Gone() != 0 {
			t.Errorf("Stands: %v, Rounds: %d, Gone: %d", k, w.Rounds(), w.Gone())
		}
	}
}

// P15.1: the chapter's example.
func TestExample(t *testing.T) {
	b := holding(t, "p/0", "p/0", "p/0")
	if k, many, is := b.w.Step(); k != of("p/0") || many != 2 || !is {
		t.Errorf("Step: %v, %d, %t", k, many, is)
	}
	if k, many, is := b.w.Step(); k != (key.Key{}) || many != 0 || is {
		t.Errorf("Step: %v, %d, %t", k, many, is)
	}
	if many := b.w.Rounds(); many != 1 {
		t.Errorf("Rounds: %d", many)
	}
}
