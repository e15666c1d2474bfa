package sweep

import (
	"math"
	"slices"
	"strconv"
	"strings"
	"testing"

	"vulgate/api"
	"vulgate/key"
	"vulgate/pins"
	"vulgate/record"
	"vulgate/store"
)

// act does one of seven acts.
func (b *bench) act(t *testing.T, n int) {
	t.Helper()
	switch n {
	case 0:
		b.publish(t, "p/0 s/0/0/a")
	case 1:
		b.publish(t, "p/1 s/0/0/a!")
	case 2:
		b.pin(t, b.m.last)
	case 3:
		b.unpin(t, 0)
	case 4:
		b.step(t)
	case 5:
		b.steps(t, 2)
	default:
		b.round(t)
	}
}

// P15.1, P15.2: all rows of five of seven acts: what is published, pinned at the last time, unpinned, and swept by one step, by two and by a round.
func TestRowsAll(t *testing.T) {
	for n := range 7 * 7 * 7 * 7 * 7 {
		b := holding(t, "p/0")
		for i := n; i > 0; i /= 7 {
			b.act(t, i%7)
		}
		b.look(t)
		if n%5 == 0 {
			b.check(t)
		}
	}
}

// words are some of a text's, made by chance, each with a ! behind it or not.
func (c *chance) words(s string) string {
	var l []string
	for _, word := range strings.Fields(s) {
		switch c.below(6) {
		case 0:
			l = append(l, word)
		case 1:
			l = append(l, word+"!")
		}
	}
	return strings.Join(append(l, "b/3/0"), " ")
}

// pinned does one of some things with pins: one more at a time of any kind, or fewer.
func (b *bench) pinned(t *testing.T, c *chance) {
	t.Helper()
	switch c.below(5) {
	case 0:
		b.pin(t, uint64(c.below(int(b.m.last)+3)))
	case 1:
		b.pin(t, b.m.last)
	case 2:
		if at, is := b.p.At(c.below(4)); is {
			b.pin(t, at)
		}
	default:
		b.unpin(t, c.below(6), c.below(6))
	}
}

// P1, P15.1, P15.2: rows of Publish, Pin, Unpin and steps made by chance, in many orders, against what the sweeper and its store must hold.
func TestRows(t *testing.T) {
	keys := "p/0 p/1 g/0/1 l/0/de l/0/de-AT b/0/0 b/0/1 s/0/0/a s/0/0/b s/0/1/a s/1/0/a t/0/0/a/de t/0/0/a/de-AT t/0/1/a/de"
	var c chance
	gone, rounds, kept := 0, 0, 0
	for range 80 {
		b := empty(t)
		for range 60 {
			switch c.below(8) {
			case 0, 1, 2:
				b.publish(t, c.words(keys))
			case 3:
				b.pinned(t, &c)
			case 4, 5:
				b.step(t)
			case 6:
				b.steps(t, c.below(30)-5)
			default:
				if c.below(2) == 0 {
					kept += len(b.m.pins)
					b.sweepAll(t)
				}
			}
			if many := b.s.Versions(key.Prefix{}); many != len(b.m.versions) {
				t.Errorf("%d versions, not %d", many, len(b.m.versions))
			}
		}
		b.check(t)
		gone += b.w.Gone()
		rounds += b.w.Rounds()
	}
	if gone < 1500 || rounds < 500 || kept < 200 {
		t.Errorf("%d versions gone, %d rounds over, %d pins there", gone, rounds, kept)
	}
}

// P15.2: a store that is swept again and again while it grows shows at each pin that stays, and at the last time, what one that is never swept shows.
func TestRowsPinned(t *testing.T) {
	keys := "p/0 l/0/de s/0/0/a s/0/0/b t/0/0/a/de"
	var c chance
	for range 60 {
		b, whole := empty(t), store.New()
		for range 50 {
			l := writes(int(b.m.last), c.words(keys))
			b.put(t, l)
			if _, err := whole.Publish(l...); err != api.OK {
				t.Fatal(err)
			}
			if c.below(4) == 0 {
				b.pin(t, b.m.last)
			}
			if c.below(6) == 0 {
				b.unpin(t, c.below(8))
			}
			b.steps(t, c.below(6))
			for _, at := range append(b.p.Times(), b.m.last, math.MaxUint64) {
				want, _ := whole.Scan(key.Prefix{}, at, math.MaxInt)
				if got, more := b.s.Scan(key.Prefix{}, at, math.MaxInt); !slices.Equal(got, want) || more {
					t.Errorf("at %d, pinned at %v: %v, not %v", at, b.m.pins, got, want)
				}
			}
		}
	}
}

// told is what a step answers.
type told struct {
	key  key.Key
	many int
	is   bool
}

// P2: the same calls in the same order have the same answers.
func TestSame(t *testing.T) {
	row := func() []told {
		var c chance
		var l []told
		b := empty(t)
		for range 300 {
			b.publish(t, c.words("p/0 p/1 l/0/de s/0/0/a s/0/0/b t/0/0/a/de"))
			if c.below(3) == 0 {
				b.pinned(t, &c)
			}
			k, many, is := b.w.Step()
			l = append(l, told{k, many, is}, told{b.w.Stands(), b.w.Steps(c.below(4)), true}, told{many: b.w.Gone() + b.w.Rounds()})
		}
		return append(l, told{many: b.w.Round()})
	}
	l := row()
	for range 3 {
		if other := row(); !slices.Equal(l, other) {
			t.Error("another row of answers")
		}
	}
}

// sources are writes of sixteen sources, from a number on; dead ones have no record.
func sources(from int, dead bool) []store.Write {
	var l []store.Write
	for i := range 16 {
		w := store.Write{Key: of("s/0/0/n" + strconv.Itoa(100000+from+i)), Dead: dead}
		if !dead {
			w.Rec = rec(record.Source, i)
		}
		l = append(l, w)
	}
	return l
}

// large is a store of so many keys, rounded up to sixteens, that came and died, and a sweeper of it.
func large(t *testing.T, n int) (*store.Store, *Sweeper) {
	t.Helper()
	s := store.New()
	for from := 0; from < n; from += 16 {
		for i := range 2 {
			if _, err := s.Publish(sources(from, i == 1)...); err != api.OK {
				t.Fatal(err)
			}
		}
	}
	w, err := New(s, &pins.Table{})
	if err != api.OK {
		t.Fatal(err)
	}
	return s, w
}

// P1, P15.1: more keys than Steps has steps: it ends at the 10000th; a round goes through all of them.
func TestLarge(t *testing.T) {
	s, w := large(t, 12000)
	if many := w.Steps(math.MaxInt); many != 20000 || w.Stands() != of("s/0/0/n109999") || w.Rounds() != 0 || w.Gone() != 20000 || s.Versions(key.Prefix{}) != 4000 {
		t.Errorf("Steps: %d, Stands: %q, Rounds: %d, Gone: %d", many, w.Stands().Text(), w.Rounds(), w.Gone())
	}
	if k, many, is := w.Step(); k != of("s/0/0/n110000") || many != 2 || !is {
		t.Errorf("Step: %q, %d, %t", k.Text(), many, is)
	}
	if many := w.Round(); many != 3998 || w.Rounds() != 1 || w.Stands() != (key.Key{}) || w.Gone() != 24000 || s.Versions(key.Prefix{}) != 0 {
		t.Errorf("Round: %d, Rounds: %d, Gone: %d", many, w.Rounds(), w.Gone())
	}
	s, w = large(t, 10016)
	if many := w.Round(); many != 20032 || w.Rounds() != 1 || w.Gone() != 20032 || s.Versions(key.Prefix{}) != 0 {
		t.Errorf("Round: %d, Rounds: %d, Gone: %d", many, w.Rounds(), w.Gone())
	}
}

// P1, P15.1: very many versions of one key, of which one goes, or all but one, by one step.
func TestLargeKey(t *testing.T) {
	s, p := store.New(), &pins.Table{}
	for i := range 20000 {
		if time, err := s.Publish(store.Write{Key: of("p/0"), Rec: rec(record.Project, i)}); time != uint64(i+1) || err != api.OK {
			t.Fatalf("Publish: %d, %d", time, err)
		}
	}
	for time := range uint64(64) {
		if _, err := p.Pin(19999 - time*2); err != api.OK {
			t.Fatal(err)
		}
	}
	w, err := New(s, p)
	if k, many, is := w.Step(); k != of("p/0") || many != 19935 || !is || err != api.OK {
		t.Errorf("Step: %v, %d, %t", k, many, is)
	}
	p.Unpin(3)
	if many := w.Round(); many != 1 || w.Gone() != 19936 || s.Versions(key.Prefix{}) != 64 {
		t.Errorf("Round: %d, Gone: %d", many, w.Gone())
	}
}
