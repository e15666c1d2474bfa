package sweep

import (
	"math"
	"testing"

	"vulgate/api"
	"vulgate/key"
	"vulgate/pins"
	"vulgate/store"
)

// wantStep takes a step, which must tell what is written out: the key's text, empty if the round is over.
func (b *bench) wantStep(t *testing.T, text string, many int) {
	t.Helper()
	if k, n, is := b.m.step(); k != of(text) || n != many || is != (text != "") {
		t.Fatalf("%q, %d was asked for, not %q, %d", text, many, k.Text(), n)
	}
	if k, n, is := b.w.Step(); k != of(text) || n != many || is != (text != "") {
		t.Errorf("Step: %q, %d, %t, not %q, %d", k.Text(), n, is, text, many)
	}
	b.check(t)
}

// wantAt holds what the sweeper tells of itself against what is written out.
func (b *bench) wantAt(t *testing.T, text string, rounds, gone int) {
	t.Helper()
	if k := b.w.Stands(); k != of(text) || b.w.Rounds() != rounds || b.w.Gone() != gone {
		t.Errorf("Stands: %q, Rounds: %d, Gone: %d, not %q, %d, %d", k.Text(), b.w.Rounds(), b.w.Gone(), text, rounds, gone)
	}
	b.check(t)
}

// five are writes of five times, of keys of which without pins 1, 0, 2, 3 and 1 versions go, in their order.
func five() []string {
	return []string{"p/0 s/0/0/a b/0/0", "p/0 g/0/1 s/0/0/a t/0/0/a/de", "s/0/0/a!", "b/0/0 t/0/0/a/de", "b/0/0"}
}

// P15.1: a step in an empty store: the round is over by it, each time.
func TestStepEmpty(t *testing.T) {
	b := empty(t)
	for rounds := range 5 {
		b.wantAt(t, "", rounds, 0)
		b.wantStep(t, "", 0)
	}
	b.wantAt(t, "", 5, 0)
	b.pin(t, 0, 7)
	b.wantStep(t, "", 0)
	b.wantAt(t, "", 6, 0)
}

// P15.1: steps of the first key, of the last, behind which the round is over, and those that begin the next ones; keys from which nothing goes, some versions, and all; Stands, Rounds and Gone ahead of the first step, in a round, and behind it.
func TestStep(t *testing.T) {
	b := holding(t, five()...)
	b.wantAt(t, "", 0, 0)
	b.wantStep(t, "p/0", 1)
	b.wantAt(t, "p/0", 0, 1)
	b.wantStep(t, "g/0/1", 0)
	b.wantAt(t, "g/0/1", 0, 1)
	b.wantStep(t, "b/0/0", 2)
	b.wantAt(t, "b/0/0", 0, 3)
	b.wantStep(t, "s/0/0/a", 3)
	b.wantAt(t, "s/0/0/a", 0, 6)
	b.wantStep(t, "t/0/0/a/de", 1)
	b.wantAt(t, "t/0/0/a/de", 0, 7)
	b.wantStep(t, "", 0)
	b.wantAt(t, "", 1, 7)
	b.wantStep(t, "p/0", 0)
	b.publish(t, "p/0 g/0/1! t/0/0/a/de")
	b.wantStep(t, "g/0/1", 2)
	b.wantStep(t, "b/0/0", 0)
	b.wantStep(t, "t/0/0/a/de", 1)
	b.wantAt(t, "t/0/0/a/de", 1, 10)
	b.wantStep(t, "", 0)
	b.wantAt(t, "", 2, 10)
	b.wantStep(t, "p/0", 1)
	b.wantStep(t, "b/0/0", 0)
	b.wantStep(t, "t/0/0/a/de", 0)
	b.wantStep(t, "", 0)
	b.wantAt(t, "", 3, 11)
}

// P15.1: keys of all kinds, and those that begin like one another, come in their order, whatever the order is in which they were made.
func TestStepOrder(t *testing.T) {
	b := holding(t, "t/0/0/a/de-AT t/0/0/a/de", "s/0/0/ab s/0/0/a s/0/1/a s/1/0/a", "b/0/1 b/0/0 l/0/de-AT l/0/de", "g/0/15 g/0/1 p/3 p/0")
	for range 2 {
		for _, text := range []string{"p/0", "p/3", "g/0/1", "g/0/15", "l/0/de", "l/0/de-AT", "b/0/0", "b/0/1", "s/0/0/a", "s/0/0/ab", "s/0/1/a", "s/1/0/a", "t/0/0/a/de", "t/0/0/a/de-AT"} {
			b.wantStep(t, text, 0)
		}
		b.wantStep(t, "", 0)
	}
}

// P15.1: keys that were made ahead of the key at which it stands wait for the next round, those just behind it and far behind don't.
func TestStepMade(t *testing.T) {
	b := holding(t, "p/1", "s/0/0/b s/0/0/d", "p/1!")
	b.wantStep(t, "p/1", 2)
	b.publish(t, "p/0 p/1 p/2")
	b.wantStep(t, "p/2", 0)
	b.wantStep(t, "s/0/0/b", 0)
	b.publish(t, "s/0/0/a s/0/0/b s/0/0/c p/0!")
	b.wantStep(t, "s/0/0/c", 0)
	b.wantStep(t, "s/0/0/d", 0)
	b.publish(t, "t/0/0/a/de s/0/0/d")
	b.publish(t, "t/0/0/a/de!")
	b.wantStep(t, "t/0/0/a/de", 2)
	b.publish(t, "t/0/0/a/de s/0/0/d!")
	b.wantStep(t, "", 0)
	for _, x := range []struct {
		text string
		many int
	}{{"p/0", 2}, {"p/1", 0}, {"p/2", 0}, {"s/0/0/a", 0}, {"s/0/0/b", 1}, {"s/0/0/c", 0}, {"s/0/0/d", 3}, {"t/0/0/a/de", 0}, {"", 0}} {
		b.wantStep(t, x.text, x.many)
	}
	b.wantAt(t, "", 2, 10)
}

// P15.1: a key behind the last one, made when the round is over or nearly so, and the store's keys that all go.
func TestStepLast(t *testing.T) {
	b := holding(t, "s/0/0/a")
	b.wantStep(t, "s/0/0/a", 0)
	b.publish(t, "s/0/0/b")
	b.wantStep(t, "s/0/0/b", 0)
	b.wantStep(t, "", 0)
	b.publish(t, "s/0/0/c")
	b.wantStep(t, "s/0/0/a", 0)
	b.publish(t, "s/0/0/a! s/0/0/b! s/0/0/c!")
	b.wantStep(t, "s/0/0/b", 2)
	b.wantStep(t, "s/0/0/c", 2)
	b.wantAt(t, "s/0/0/c", 1, 4)
	b.wantStep(t, "", 0)
	b.wantStep(t, "s/0/0/a", 2)
	b.wantStep(t, "", 0)
	b.wantStep(t, "", 0)
	b.wantAt(t, "", 4, 6)
}

// P15.1: what others trim or publish between two steps; Gone counts what went by steps alone.
func TestStepOthers(t *testing.T) {
	b := holding(t, five()...)
	b.wantStep(t, "p/0", 1)
	if many := b.s.Trim(of("b/0/0")); many != b.m.trim(of("b/0/0")) || many != 2 {
		t.Errorf("Trim: %d", many)
	}
	if many := b.s.Trim(of("s/0/0/a")); many != b.m.trim(of("s/0/0/a")) || many != 3 {
		t.Errorf("Trim: %d", many)
	}
	b.wantStep(t, "g/0/1", 0)
	b.wantStep(t, "b/0/0", 0)
	b.wantStep(t, "t/0/0/a/de", 1)
	b.wantAt(t, "t/0/0/a/de", 0, 2)
}

// P15.1: Steps of each small number and of those at its bounds, from each place of a round: so many, at most 10000.
func TestSteps(t *testing.T) {
	for from := range 8 {
		for n := -2; n <= 20; n++ {
			b := holding(t, five()...)
			b.steps(t, from)
			b.steps(t, n)
			b.check(t)
			b.publish(t, "p/0 s/0/0/a")
			b.steps(t, n)
			b.steps(t, 1)
			b.check(t)
		}
	}
	b := holding(t, five()...)
	for _, n := range []int{math.MinInt, math.MinInt32, -10000, -10001, -1, 0} {
		if many := b.w.Steps(n); many != 0 {
			t.Errorf("Steps(%d): %d", n, many)
		}
		b.wantAt(t, "", 0, 0)
	}
}

// P15.1: Steps written out: of 0, of 1, of as many as a round has, and of more than a round.
func TestStepsWritten(t *testing.T) {
	for _, x := range []struct {
		n, many int
		at      string
		rounds  int
	}{{0, 0, "", 0}, {1, 1, "p/0", 0}, {2, 1, "g/0/1", 0}, {3, 3, "b/0/0", 0}, {4, 6, "s/0/0/a", 0}, {5, 7, "t/0/0/a/de", 0}, {6, 7, "", 1}, {7, 7, "p/0", 1}, {10, 7, "t/0/0/a/de", 1}, {11, 7, "", 2}, {12, 7, "p/0", 2}, {5006, 7, "", 1001}} {
		b := holding(t, five()...)
		if many, want := b.w.Steps(x.n), b.m.steps(x.n); many != x.many || want != x.many {
			t.Errorf("Steps(%d): %d, not %d", x.n, many, x.many)
		}
		b.wantAt(t, x.at, x.rounds, x.many)
	}
}

// P1, P15.1: Steps of about 10000 and of far more.
func TestStepsMost(t *testing.T) {
	for _, n := range []int{9998, 9999, 10000, 10001, 10002, 20000, math.MaxInt32, math.MaxInt} {
		b, taken := empty(t), min(n, 10000)
		b.steps(t, n)
		b.wantAt(t, "", taken, 0)
		b.publish(t, "p/0 p/1")
		b.publish(t, "p/0 p/1")
		b.steps(t, n)
		b.wantAt(t, []string{"", "p/0", "p/1"}[taken%3], taken+taken/3, 2)
		b.publish(t, "p/0")
		b.step(t)
		b.steps(t, n)
		b.check(t)
	}
}

// P15.1: Round from the zero key, from each place in the middle of a round, which isn't over by it, and again.
func TestRound(t *testing.T) {
	for from := range 12 {
		b := holding(t, five()...)
		b.steps(t, from)
		b.publish(t, "p/0 t/0/0/a/de")
		rounds, gone := b.w.Rounds(), b.w.Gone()
		if many := b.m.round(); b.w.Round() != many || gone+many != 9 {
			t.Errorf("Round from %d on: %d went ahead of it, not %d", from, gone, 9-many)
		}
		b.wantAt(t, "", rounds+1, 9)
		b.round(t)
		b.wantAt(t, "", rounds+2, 9)
		b.publish(t, "p/0! g/0/1")
		b.step(t)
		b.round(t)
		b.wantAt(t, "", rounds+3, 12)
	}
}

// P15.1: Round in an empty store, and in one of which all goes.
func TestRoundEmpty(t *testing.T) {
	b := empty(t)
	for rounds := range 3 {
		b.wantAt(t, "", rounds, 0)
		b.round(t)
	}
	b.publish(t, "p/0 p/1 p/2")
	b.publish(t, "p/0! p/1! p/2!")
	b.step(t)
	b.step(t)
	b.wantAt(t, "p/1", 3, 4)
	b.round(t)
	b.wantAt(t, "", 4, 6)
	b.round(t)
	b.wantAt(t, "", 5, 6)
}

// P15.1: two sweepers of one store and one table: each stands by itself, and counts what went by its own steps.
func TestTwo(t *testing.T) {
	b := holding(t, five()...)
	other, err := New(b.s, b.p)
	if err != api.OK {
		t.Fatal(err)
	}
	b.wantStep(t, "p/0", 1)
	if k, many, is := other.Step(); k != of("p/0") || many != 0 || !is {
		t.Errorf("Step: %v, %d, %t", k, many, is)
	}
	b.wantStep(t, "g/0/1", 0)
	b.wantStep(t, "b/0/0", 2)
	if many := other.Round(); many != 4 || other.Rounds() != 1 || other.Gone() != 4 || other.Stands() != (key.Key{}) {
		t.Errorf("Round: %d, Rounds: %d, Gone: %d", many, other.Rounds(), other.Gone())
	}
	b.m.trim(of("s/0/0/a"))
	b.m.trim(of("t/0/0/a/de"))
	b.wantAt(t, "b/0/0", 0, 3)
	b.wantStep(t, "t/0/0/a/de", 0)
}

// P15.1: two sweepers of two stores, with one table, and of one store, with two tables: each trims its own store by its own pins.
func TestOwn(t *testing.T) {
	b, other := holding(t, five()...), holding(t, five()...)
	b.pin(t, 2)
	b.round(t)
	b.check(t)
	other.check(t)
	both, err := New(other.s, b.p)
	if many := both.Round(); many != 3 || err != api.OK {
		t.Errorf("Round: %d, %d", many, err)
	}
	without, err := New(b.s, &pins.Table{})
	if many := without.Round(); many != 4 || err != api.OK {
		t.Errorf("Round: %d, %d", many, err)
	}
	if many, left := other.s.Versions(key.Prefix{}), b.s.Versions(key.Prefix{}); many != 8 || left != 4 {
		t.Errorf("%d and %d versions left", many, left)
	}
}

// P15.1: a sweeper's store is the one that it was handed: what is asked of the one is told by the other.
func TestStore(t *testing.T) {
	b := holding(t, five()...)
	if time, err := b.w.Publish(store.Write{Key: of("p/0"), Dead: true}); time != 6 || err != api.OK || b.s.Last() != 6 {
		t.Errorf("Publish: %d, %d", time, err)
	}
	b.m.publish(writes(0, "p/0!"))
	b.round(t)
	b.check(t)
	if b.w.Live() != 3 || b.s.Live() != 3 || b.w.Last() != 6 || b.w.Versions(key.Prefix{}) != 3 {
		t.Errorf("Live: %d, %d", b.w.Live(), b.s.Live())
	}
}
