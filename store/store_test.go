package store

import (
	"bytes"
	"fmt"
	"math"
	"slices"
	"strconv"
	"strings"
	"testing"

	"vulgate/api"
	"vulgate/key"
	"vulgate/record"
)

// of is the key of a text.
func of(s string) key.Key {
	k, err := key.Parse(s)
	if err != api.OK {
		panic(s)
	}
	return k
}

// keysOf are the keys of a text's words.
func keysOf(s string) []key.Key {
	var l []key.Key
	for _, word := range strings.Fields(s) {
		l = append(l, of(word))
	}
	return l
}

// rec is a right record of a kind, of each small number another one, where the kind's fields let it be.
func rec(kind uint8, n int) record.Rec {
	r := record.Rec{Kind: kind}
	switch kind {
	case record.Project:
		r.User = uint8(n % 16)
	case record.Grant:
		r.Mask = uint8(1 + n%63)
	case record.Branch:
		r.Parent, r.State, r.At = uint8(n%4), uint8(n%2), uint64(n)
	case record.Source:
		r.Rev, r.Text = uint32(1+n), strconv.Itoa(n)
	case record.Trans:
		r.State, r.User, r.Rev, r.Text = 1+uint8(n%5), uint8(n%16), uint32(1+n), strconv.Itoa(n)
	}
	return r
}

// writes are those of the keys of a text's words, with the records of a number; dead, where a ! is behind the word.
func writes(n int, s string) []Write {
	var l []Write
	for _, word := range strings.Fields(s) {
		text, dead := strings.CutSuffix(word, "!")
		w := Write{Key: of(text), Dead: dead}
		if !dead {
			w.Rec = rec(w.Key.Kind, n)
		}
		l = append(l, w)
	}
	return l
}

// show tells writes as a text.
func show(l []Write) string {
	var words []string
	for _, w := range l[:min(len(l), 20)] {
		switch {
		case w.Dead && w.Rec == record.Rec{}:
			words = append(words, w.Key.Text()+"!")
		default:
			words = append(words, fmt.Sprintf("%q %t %+v", w.Key.Text(), w.Dead, w.Rec))
		}
	}
	return strings.Join(words, ", ")
}

// version is what a key became at a time.
type version struct {
	key  key.Key
	at   uint64
	dead bool
	rec  record.Rec
}

// plain is what a store must hold, by the chapter's words: all keys' versions, in order of time.
type plain struct {
	last     uint64
	versions []version
}

// of: a key's versions.
func (m plain) of(k key.Key) []version {
	var l []version
	for _, v := range m.versions {
		if v.key == k {
			l = append(l, v)
		}
	}
	return l
}

// newest: what Newest must tell.
func (m plain) newest(k key.Key) uint64 {
	if l := m.of(k); len(l) > 0 {
		return l[len(l)-1].at
	}
	return 0
}

// isLive: isn't a key's newest version dead?
func (m plain) isLive(k key.Key) bool {
	l := m.of(k)
	return len(l) > 0 && !l[len(l)-1].dead
}

// inOrder: does a key's bytes come ahead of another's?
func inOrder(a, b key.Key) int {
	x, y := a.Bytes(), b.Bytes()
	return bytes.Compare(x[:], y[:])
}

// keys: what Keys must tell.
func (m plain) keys(p key.Prefix) []key.Key {
	var l []key.Key
	for _, v := range m.versions {
		if p.Has(v.key) {
			l = append(l, v.key)
		}
	}
	slices.SortFunc(l, inOrder)
	return slices.Compact(l)
}

// live: what Live must tell.
func (m plain) live() int {
	many := 0
	for _, k := range m.keys(key.Prefix{}) {
		if m.isLive(k) {
			many++
		}
	}
	return many
}

// check: what Check must tell.
func check(l []Write) api.Errno {
	if len(l) == 0 {
		return api.ErrArg
	}
	if len(l) > 16 {
		return api.ErrLong
	}
	for i, w := range l {
		if !key.Right(w.Key) {
			return api.ErrForm
		}
		if w.Dead && w.Rec != (record.Rec{}) {
			return api.ErrForm
		}
		if !w.Dead {
			if err := record.Check(w.Rec); err != api.OK {
				return err
			}
			if w.Rec.Kind != w.Key.Kind {
				return api.ErrKind
			}
		}
		for _, ahead := range l[:i] {
			if ahead.Key == w.Key {
				return api.ErrTwice
			}
		}
	}
	return api.OK
}

// room: what Room must tell.
func (m plain) room(l []Write) api.Errno {
	many := m.live()
	for _, w := range l {
		if !w.Dead && !m.isLive(w.Key) {
			many++
		}
		if w.Dead && m.isLive(w.Key) {
			many--
		}
	}
	if many > 200 {
		return api.ErrFull
	}
	return api.OK
}

// publish: what Publish must do and tell.
func (m *plain) publish(l []Write) (uint64, api.Errno) {
	if err := check(l); err != api.OK {
		return 0, err
	}
	if err := m.room(l); err != api.OK {
		return 0, err
	}
	m.last++
	for _, w := range l {
		v := version{w.Key, m.last, w.Dead, w.Rec}
		if !w.Dead && w.Key.Kind == key.Branch && w.Key.At != 0 && w.Rec.At == 0 {
			v.rec.At = m.last
		}
		m.versions = append(m.versions, v)
	}
	return m.last, api.OK
}

// seen: the newest of a key's versions up to a time; -1 without any.
func seen(l []version, time uint64) int {
	at := -1
	for i, v := range l {
		if v.at <= time {
			at = i
		}
	}
	return at
}

// read: what Read must tell.
func (m plain) read(k key.Key, time uint64) (record.Rec, bool) {
	l := m.of(k)
	i := seen(l, time)
	if i < 0 || l[i].dead {
		return record.Rec{}, false
	}
	return l[i].rec, true
}

// newestIn: what NewestIn must tell.
func (m plain) newestIn(p key.Prefix) uint64 {
	newest := uint64(0)
	for _, v := range m.versions {
		if p.Has(v.key) {
			newest = v.at
		}
	}
	return newest
}

// all: what Scan must tell of a prefix, if it may tell as many as there are.
func (m plain) all(p key.Prefix, time uint64) []Entry {
	var l []Entry
	for _, k := range m.keys(p) {
		if r, is := m.read(k, time); is {
			l = append(l, Entry{k, r})
		}
	}
	return l
}

// trim: what Trim must do and tell.
func (m *plain) trim(k key.Key, pins []uint64) int {
	l := m.of(k)
	var left []version
	for i, v := range l {
		if i == len(l)-1 || slices.ContainsFunc(pins, func(pin uint64) bool { return seen(l, pin) == i }) {
			left = append(left, v)
		}
	}
	for len(left) > 0 && left[0].dead && !slices.ContainsFunc(pins, func(pin uint64) bool { return pin < left[0].at }) {
		left = left[1:]
	}
	m.versions = slices.DeleteFunc(slices.Clone(m.versions), func(v version) bool { return v.key == k && !slices.Contains(left, v) })
	return len(l) - len(left)
}

// next: what Next must tell.
func (m plain) next(k key.Key) (key.Key, bool) {
	for _, other := range m.keys(key.Prefix{}) {
		if inOrder(other, k) > 0 {
			return other, true
		}
	}
	return key.Key{}, false
}

// versionsOf: what Versions must tell.
func (m plain) versionsOf(p key.Prefix) int {
	many := 0
	for _, v := range m.versions {
		if p.Has(v.key) {
			many++
		}
	}
	return many
}

// times are all up to one behind the last, and some far behind.
func (m plain) times() []uint64 {
	l := []uint64{1 << 32, 1 << 63, math.MaxUint64}
	for time := range m.last + 2 {
		l = append(l, time)
	}
	return l
}

// others are keys that most stores of these tests don't have: ahead of, between and behind all, and wrong ones.
func others() []key.Key {
	behind := of("t/3/3/z/zz")
	behind.Kind = 255
	return append(keysOf("p/3 g/0/15 l/0/fr b/3/3 s/0/0/aa s/3/3/z t/0/0/a/fr t/3/3/z/zz"), key.Key{}, key.Key{Kind: 1, Project: 4}, key.Key{Kind: 7}, behind)
}

// prefixesOf are the prefixes of a key, of each depth and around these.
func prefixesOf(k key.Key) []key.Prefix {
	var l []key.Prefix
	for _, depth := range []int{math.MinInt, -1, 0, 1, 2, 3, 4, 5, 6, math.MaxInt} {
		l = append(l, key.Prefix{Key: k, Depth: depth})
	}
	return l
}

// checkKey holds what is told of a key against what it must be.
func checkKey(t *testing.T, s *Store, m plain, k key.Key) {
	t.Helper()
	if at := s.Newest(k); at != m.newest(k) {
		t.Errorf("Newest of %q: %d, not %d", k.Text(), at, m.newest(k))
	}
	want, there := m.next(k)
	if next, is := s.Next(k); next != want || is != there {
		t.Errorf("Next of %q: %q, %t, not %q, %t", k.Text(), next.Text(), is, want.Text(), there)
	}
	for _, time := range m.times() {
		want, there := m.read(k, time)
		if r, is := s.Read(k, time); r != want || is != there {
			t.Errorf("Read of %q at %d: %+v, %t, not %+v, %t", k.Text(), time, r, is, want, there)
		}
	}
}

// checkScan holds what Scan tells against what it must tell: of all that is seen the first ones.
func checkScan(t *testing.T, s *Store, p key.Prefix, time uint64, all []Entry) {
	t.Helper()
	for _, most := range []int{math.MinInt, -1, 0, 1, 2, len(all) - 1, len(all), len(all) + 1, math.MaxInt} {
		many := max(0, min(most, len(all)))
		if l, more := s.Scan(p, time, most); !slices.Equal(l, all[:many]) || more != (many < len(all)) {
			t.Errorf("Scan of %q, %d at %d, most %d: %v, %t, not %v", p.Key.Text(), p.Depth, time, most, l, more, all[:many])
		}
	}
}

// checkPrefix holds what is told of a prefix against what it must be.
func checkPrefix(t *testing.T, s *Store, m plain, p key.Prefix) {
	t.Helper()
	if at := s.NewestIn(p); at != m.newestIn(p) {
		t.Errorf("NewestIn of %q, %d: %d, not %d", p.Key.Text(), p.Depth, at, m.newestIn(p))
	}
	if many := s.Versions(p); many != m.versionsOf(p) {
		t.Errorf("Versions of %q, %d: %d, not %d", p.Key.Text(), p.Depth, many, m.versionsOf(p))
	}
	if l := s.Keys(p); !slices.Equal(l, m.keys(p)) {
		t.Errorf("Keys of %q, %d: %v, not %v", p.Key.Text(), p.Depth, l, m.keys(p))
	}
	for _, time := range m.times() {
		checkScan(t, s, p, time, m.all(p, time))
	}
}

// checkWhole holds what is told of the whole of a store against what it must be.
func checkWhole(t *testing.T, s *Store, m plain) {
	t.Helper()
	if s.Last() != m.last || s.Live() != m.live() {
		t.Errorf("Last: %d, Live: %d, not %d, %d", s.Last(), s.Live(), m.last, m.live())
	}
	checkPrefix(t, s, m, key.Prefix{})
}

// checkStore holds all that is told of a store against what it must be.
func checkStore(t *testing.T, s *Store, m plain) {
	t.Helper()
	checkWhole(t, s, m)
	for _, k := range append(others(), m.keys(key.Prefix{})...) {
		checkKey(t, s, m, k)
		for _, p := range prefixesOf(k) {
			checkPrefix(t, s, m, p)
		}
	}
}

// checkWrites holds what Check and Room tell of writes against what they must tell, and the writes against what they were.
func checkWrites(t *testing.T, s *Store, m plain, l ...Write) {
	t.Helper()
	was := slices.Clone(l)
	if err := Check(l...); err != check(was) {
		t.Errorf("Check of %s: %d, not %d", show(was), err, check(was))
	}
	if err := s.Room(l...); err != m.room(was) {
		t.Errorf("Room with %d live for %s: %d, not %d", m.live(), show(was), err, m.room(was))
	}
	if !slices.Equal(l, was) {
		t.Errorf("made %s of %s", show(l), show(was))
	}
}

// publish publishes writes in a store and in what it must hold, and holds the writes against what they were.
func publish(t *testing.T, s *Store, m *plain, l ...Write) {
	t.Helper()
	checkWrites(t, s, *m, l...)
	was := slices.Clone(l)
	want, wantErr := m.publish(was)
	if time, err := s.Publish(l...); time != want || err != wantErr {
		t.Errorf("Publish of %s: %d, %d, not %d, %d", show(was), time, err, want, wantErr)
	}
	if !slices.Equal(l, was) {
		t.Errorf("Publish made %s of %s", show(l), show(was))
	}
}

// trim trims a key in a store and in what it must hold, and holds the pins against what they were.
func trim(t *testing.T, s *Store, m *plain, k key.Key, pins ...uint64) {
	t.Helper()
	was := slices.Clone(pins)
	want := m.trim(k, was)
	if many := s.Trim(k, pins...); many != want {
		t.Errorf("Trim of %q by %d: %d, not %d", k.Text(), was, many, want)
	}
	if !slices.Equal(pins, was) {
		t.Errorf("Trim made %d of %d", pins, was)
	}
}

// holding is a store in which the writes of some texts were published, one text at each time, and what it must hold.
func holding(t *testing.T, texts ...string) (*Store, *plain) {
	t.Helper()
	s, m := New(), &plain{}
	for i, text := range texts {
		publish(t, s, m, writes(i, text)...)
	}
	if s.Last() != uint64(len(texts)) {
		t.Fatalf("%d of %d published", s.Last(), len(texts))
	}
	return s, m
}

// sources are writes of so many sources, from a number on; dead ones have no record.
func sources(from, n int, dead bool) []Write {
	var l []Write
	for i := range n {
		w := Write{Key: of("s/0/1/n" + strconv.Itoa(from+i)), Dead: dead}
		if !dead {
			w.Rec = rec(record.Source, i)
		}
		l = append(l, w)
	}
	return l
}

// publishAll publishes writes, sixteen at a time at most.
func publishAll(t *testing.T, s *Store, m *plain, l []Write) {
	t.Helper()
	for some := range slices.Chunk(l, 16) {
		publish(t, s, m, some...)
	}
}

// chance tells numbers that look like chance, the same in each run.
type chance uint64

// below: a number below one that is above 0.
func (c *chance) below(n int) int {
	*c = *c*6364136223846793005 + 1442695040888963407
	return int(uint64(*c) >> 33 % uint64(n))
}

// P1, P14.1, P14.2, P14.3, P14.4: a nil store.
func TestNil(t *testing.T) {
	var s *Store
	for _, l := range [][]Write{nil, {}, writes(0, "p/0"), writes(0, "p/0!"), writes(0, "p/0 p/0"), {{}}, make([]Write, 17), sources(0, 16, false), sources(0, 201, false)} {
		if err := s.Room(l...); err != api.ErrState {
			t.Errorf("Room for %s: %d", show(l), err)
		}
		if time, err := s.Publish(l...); time != 0 || err != api.ErrState {
			t.Errorf("Publish of %s: %d, %d", show(l), time, err)
		}
		if err := Check(l...); err != check(l) {
			t.Errorf("Check of %s: %d", show(l), err)
		}
	}
	for _, pins := range [][]uint64{nil, {}, {0}, {1, 2}, {math.MaxUint64}} {
		for _, k := range others() {
			if many := s.Trim(k, pins...); many != 0 {
				t.Errorf("Trim by %d: %d", pins, many)
			}
		}
	}
	checkStore(t, s, plain{})
}

// P14.1, P14.2, P14.3: a store without records, and that another one's records aren't seen in it.
func TestEmpty(t *testing.T) {
	s, other := New(), New()
	publish(t, other, &plain{}, writes(0, "p/0 s/0/0/a")...)
	checkStore(t, s, plain{})
	for _, k := range others() {
		trim(t, s, &plain{}, k)
		trim(t, s, &plain{}, k, 0, 1, math.MaxUint64)
	}
	checkStore(t, s, plain{})
}

// P14.2: the chapter's example.
func TestExample(t *testing.T) {
	s, k := New(), of("p/0")
	user1 := record.Rec{Kind: record.Project, User: 1}
	if time, err := s.Publish(Write{Key: k, Rec: user1}); time != 1 || err != api.OK {
		t.Errorf("Publish: %d, %d", time, err)
	}
	if time, err := s.Publish(Write{Key: k, Dead: true}); time != 2 || err != api.OK {
		t.Errorf("Publish: %d, %d", time, err)
	}
	if r, is := s.Read(k, 1); r != user1 || !is {
		t.Errorf("Read at 1: %+v, %t", r, is)
	}
	if r, is := s.Read(k, 2); r != (record.Rec{}) || is {
		t.Errorf("Read at 2: %+v, %t", r, is)
	}
	if s.Live() != 0 || s.Newest(k) != 2 {
		t.Errorf("Live: %d, Newest: %d", s.Live(), s.Newest(k))
	}
}
