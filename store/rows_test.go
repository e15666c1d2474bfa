package store

import (
	"math"
	"slices"
	"strconv"
	"testing"

	"vulgate/api"
	"vulgate/key"
	"vulgate/record"
)

// write is one made by chance: of one of some keys, most often right, dead or not.
func (c *chance) write(keys []key.Key) Write {
	k := keys[c.below(len(keys))]
	w := Write{Key: k, Rec: rec(k.Kind, c.below(100))}
	switch c.below(40) {
	case 0:
		w.Dead = true
	case 1:
		w.Key = wrongKeys()[c.below(len(wrongKeys()))]
	case 2:
		w.Rec = wrongRecs()[c.below(len(wrongRecs()))].w.Rec
	case 3:
		w.Rec = rec(uint8(c.below(8)), 1)
	case 4, 5, 6, 7, 8, 9, 10, 11, 12, 13, 14, 15, 16:
		return Write{Key: k, Dead: true}
	case 17, 18, 19, 20, 21, 22:
		w.Rec.At = 0
	}
	return w
}

// writes are some made by chance, seldom as many as may not be published.
func (c *chance) writes(keys []key.Key) []Write {
	n := 1 + c.below(4)
	switch c.below(20) {
	case 0:
		n = 0
	case 1:
		n = c.below(20)
	}
	var l []Write
	for range n {
		l = append(l, c.write(keys))
	}
	return l
}

// pins are times made by chance, up to somewhat behind a time.
func (c *chance) pins(last uint64) []uint64 {
	var l []uint64
	for range c.below(5) {
		l = append(l, uint64(c.below(int(last)+3)))
	}
	return l
}

// P1, P14.1, P14.2, P14.3: rows of Publish and Trim made by chance, in many orders, against what the store must hold.
func TestRows(t *testing.T) {
	keys := keysOf("p/0 p/1 g/0/1 l/0/de l/0/de-AT b/0/0 b/0/1 b/0/2 s/0/0/a s/0/0/b s/0/1/a s/1/0/a t/0/0/a/de t/0/0/a/de-AT t/0/1/a/de")
	var c chance
	published, refused, gone, lost := 0, map[api.Errno]int{}, 0, 0
	for round := range 60 {
		s, m := New(), &plain{}
		for range 60 {
			if c.below(3) > 0 {
				l := c.writes(keys)
				publish(t, s, m, l...)
				refused[check(l)]++
				published = int(m.last) + published
			} else {
				k, versions := keys[c.below(len(keys))], len(m.versions)
				trim(t, s, m, k, c.pins(m.last)...)
				gone += versions - len(m.versions)
				if len(m.versions) < versions && len(m.of(k)) == 0 {
					lost++
				}
			}
			k, time := keys[c.below(len(keys))], uint64(c.below(int(m.last)+2))
			p := key.Prefix{Key: k, Depth: c.below(7)}
			checkKey(t, s, *m, k)
			checkScan(t, s, p, time, m.all(p, time))
			if s.Last() != m.last || s.Live() != m.live() || s.Versions(p) != m.versionsOf(p) || s.NewestIn(p) != m.newestIn(p) || !slices.Equal(s.Keys(p), m.keys(p)) {
				t.Errorf("Last: %d, Live: %d, of %q, %d Versions: %d, NewestIn: %d, Keys: %v", s.Last(), s.Live(), k.Text(), p.Depth, s.Versions(p), s.NewestIn(p), s.Keys(p))
			}
		}
		checkWhole(t, s, *m)
		if round%10 == 0 {
			checkStore(t, s, *m)
		}
	}
	for _, err := range []api.Errno{api.OK, api.ErrArg, api.ErrForm, api.ErrKind, api.ErrTwice} {
		if refused[err] < 40 {
			t.Errorf("%d calls with %d alone", refused[err], err)
		}
	}
	if published < 1500 || gone < 300 || lost < 100 {
		t.Errorf("%d published, %d gone, %d keys lost", published, gone, lost)
	}
}

// P14.1, P14.2: rows of Publish and Trim made by chance about the most keys that may be live.
func TestRowsFull(t *testing.T) {
	var c chance
	full, fits := 0, 0
	for range 6 {
		s, m := roomAt(t, 190)
		for range 80 {
			var l []Write
			for _, n := range c.numbers(1+c.below(16), 250) {
				l = append(l, sources(n, 1, c.below(8) == 0)...)
			}
			last := m.last
			publish(t, s, m, l...)
			if m.last == last {
				full++
			} else {
				fits++
			}
			for range 3 {
				trim(t, s, m, sources(c.below(250), 1, true)[0].Key, c.pins(m.last)...)
			}
			if s.Live() != m.live() || s.Last() != m.last {
				t.Errorf("Live: %d, Last: %d, not %d, %d", s.Live(), s.Last(), m.live(), m.last)
			}
		}
		checkScan(t, s, key.Prefix{}, s.Last(), m.all(key.Prefix{}, s.Last()))
	}
	if full < 50 || fits < 50 {
		t.Errorf("%d times full, %d times not", full, fits)
	}
}

// numbers are so many unlike ones below a number, made by chance.
func (c *chance) numbers(many, n int) []int {
	var l []int
	for len(l) < many {
		if i := c.below(n); !slices.Contains(l, i) {
			l = append(l, i)
		}
	}
	return l
}

// P14.3, P14.4: a store that is trimmed again and again while it grows shows at each pin that stays, and at the last time, what an untrimmed one shows.
func TestRowsPinned(t *testing.T) {
	var c chance
	keys := keysOf("p/0 l/0/de s/0/0/a s/0/0/b t/0/0/a/de b/0/1")
	for range 60 {
		s, whole := New(), New()
		var pins []uint64
		for range 60 {
			var l []Write
			for _, i := range c.numbers(1+c.below(3), len(keys)) {
				l = append(l, writes(c.below(100), keys[i].Text()+[]string{"", "", "!"}[c.below(3)])...)
			}
			time, err := s.Publish(l...)
			if other, otherErr := whole.Publish(l...); err != api.OK || otherErr != err || other != time {
				t.Fatalf("Publish of %s: %d, %d and %d, %d", show(l), time, err, other, otherErr)
			}
			if c.below(4) == 0 {
				pins = append(pins, time)
			}
			pins = slices.DeleteFunc(pins, func(uint64) bool { return c.below(20) == 0 })
			s.Trim(keys[c.below(len(keys))], pins...)
			for _, at := range append(slices.Clone(pins), time) {
				want, _ := whole.Scan(key.Prefix{}, at, math.MaxInt)
				if l, more := s.Scan(key.Prefix{}, at, math.MaxInt); !slices.Equal(l, want) || more {
					t.Errorf("at %d, pinned at %d: %v, not %v", at, pins, l, want)
				}
			}
		}
	}
}

// told is all that some calls answer, in their order.
type told struct {
	time uint64
	err  api.Errno
	many int
	next key.Key
	is   bool
	rec  record.Rec
}

// P2: the same calls in the same order have the same answers.
func TestSame(t *testing.T) {
	keys := keysOf(six + " s/0/0/b s/0/0/c s/0/1/a t/0/0/b/de")
	row := func() ([]told, []Entry) {
		var c chance
		var l []told
		s := New()
		for range 300 {
			time, err := s.Publish(c.writes(keys)...)
			many := s.Trim(keys[c.below(len(keys))], c.pins(s.Last())...)
			next, is := s.Next(keys[c.below(len(keys))])
			r, _ := s.Read(next, uint64(c.below(int(s.Last())+1)))
			l = append(l, told{time, err, many, next, is, r})
		}
		entries, _ := s.Scan(key.Prefix{}, s.Last(), math.MaxInt)
		return l, entries
	}
	l, entries := row()
	for range 3 {
		if other, otherEntries := row(); !slices.Equal(l, other) || !slices.Equal(entries, otherEntries) {
			t.Error("another row of answers")
		}
	}
}

// P1: very many versions, and very many keys that came and died.
func TestLarge(t *testing.T) {
	s := New()
	for i := range 20000 {
		w := Write{Key: of("s/0/0/n" + strconv.Itoa(i/2)), Dead: i%2 == 1}
		if !w.Dead {
			w.Rec = rec(record.Source, i)
		}
		if time, err := s.Publish(w, Write{Key: of("p/0"), Rec: rec(record.Project, i)}); time != uint64(i+1) || err != api.OK {
			t.Fatalf("Publish: %d, %d", time, err)
		}
	}
	if s.Live() != 1 || s.Versions(key.Prefix{}) != 40000 || len(s.Keys(key.Prefix{})) != 10001 {
		t.Errorf("Live: %d, Versions: %d, Keys: %d", s.Live(), s.Versions(key.Prefix{}), len(s.Keys(key.Prefix{})))
	}
	if r, is := s.Read(of("p/0"), 12345); !is || r != rec(record.Project, 12344) {
		t.Errorf("Read: %+v, %t", r, is)
	}
	if l, more := s.Scan(key.Prefix{}, 777, 1); len(l) != 1 || !more {
		t.Errorf("Scan: %v, %t", l, more)
	}
	many := 0
	for k, is := s.Next(key.Key{}); is; k, is = s.Next(k) {
		many += s.Trim(k, 777)
	}
	// Of p/0 two are left, of the source that is live at 777 its two; of each of those behind it that it is dead, since 777 is below that.
	if left := 2 + 2 + 10000 - 389; many != 40000-left || s.Versions(key.Prefix{}) != left {
		t.Errorf("%d went, %d left", many, s.Versions(key.Prefix{}))
	}
	for k, is := s.Next(key.Key{}); is; k, is = s.Next(k) {
		s.Trim(k)
	}
	if s.Versions(key.Prefix{}) != 1 || !slices.Equal(s.Keys(key.Prefix{}), keysOf("p/0")) {
		t.Errorf("%d left", s.Versions(key.Prefix{}))
	}
}
