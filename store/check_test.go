package store

import (
	"math"
	"slices"
	"strings"
	"testing"

	"vulgate/api"
	"vulgate/key"
	"vulgate/record"
)

// six are a key of each kind.
const six = "p/0 g/0/1 l/0/de b/0/1 s/0/0/a t/0/0/a/de"

// wrong is a write that isn't right by itself, and what Check tells of it.
type wrong struct {
	w   Write
	err api.Errno
}

// wrongKeys are keys that aren't right: of no kind, with numbers beyond bounds, with what their kind doesn't use, and without what it uses.
func wrongKeys() []key.Key {
	a := of("t/0/0/a/de")
	return []key.Key{
		{}, {Kind: 7}, {Kind: 255}, {Kind: key.Project, Project: 4}, {Kind: key.Project, At: 1}, {Kind: key.Project, Name: a.Name}, {Kind: key.Project, Tag: a.Tag},
		{Kind: key.Grant, At: 16}, {Kind: key.Branch, At: 4}, {Kind: key.Locale}, {Kind: key.Source}, {Kind: key.Source, Name: a.Name, Tag: a.Tag}, {Kind: key.Trans, Name: a.Name}, {Kind: key.Trans, Tag: a.Tag},
	}
}

// wrongRecs are records that aren't right, with each error, of kinds that are the source's and others'.
func wrongRecs() []wrong {
	long := strings.Repeat("a", 61)
	return []wrong{
		{Write{Rec: record.Rec{}}, api.ErrKind}, {Write{Rec: record.Rec{Kind: 7}}, api.ErrKind}, {Write{Rec: record.Rec{Kind: 255, Text: long}}, api.ErrKind},
		{Write{Rec: record.Rec{Kind: record.Source, Rev: 1, User: 1}}, api.ErrForm}, {Write{Rec: record.Rec{Kind: record.Source, Rev: 1, Gone: true, Text: "a"}}, api.ErrForm}, {Write{Rec: record.Rec{Kind: record.Locale, Text: "a"}}, api.ErrForm},
		{Write{Rec: record.Rec{Kind: record.Source}}, api.ErrRange}, {Write{Rec: record.Rec{Kind: record.Project, User: 16}}, api.ErrRange}, {Write{Rec: record.Rec{Kind: record.Trans, State: 6, Rev: 1}}, api.ErrRange},
		{Write{Rec: record.Rec{Kind: record.Source, Rev: 1, Text: long}}, api.ErrLong}, {Write{Rec: record.Rec{Kind: record.Trans, State: 1, Rev: 1, Text: long}}, api.ErrLong},
	}
}

// wrongs are writes with each error, and with several, of a key that isn't right or of a source's.
func wrongs(k key.Key) []wrong {
	right := rec(record.Source, 1)
	l := []wrong{{Write{Key: k, Dead: true, Rec: right}, api.ErrForm}, {Write{Key: k, Dead: true, Rec: record.Rec{Gone: true}}, api.ErrForm}, {Write{Key: k, Dead: true, Rec: record.Rec{Text: "a"}}, api.ErrForm}}
	for _, other := range wrongKeys() {
		l = append(l, wrong{Write{Key: other, Dead: true}, api.ErrForm}, wrong{Write{Key: other, Dead: true, Rec: right}, api.ErrForm}, wrong{Write{Key: other, Rec: rec(other.Kind, 1)}, api.ErrForm})
		for _, x := range wrongRecs() {
			l = append(l, wrong{Write{Key: other, Rec: x.w.Rec}, api.ErrForm}, wrong{Write{Key: other, Dead: true, Rec: x.w.Rec}, api.ErrForm})
		}
	}
	for _, x := range wrongRecs() {
		l = append(l, wrong{Write{Key: k, Rec: x.w.Rec}, x.err})
		if x.w.Rec != (record.Rec{}) {
			l = append(l, wrong{Write{Key: k, Dead: true, Rec: x.w.Rec}, api.ErrForm})
		}
	}
	for kind := range uint8(7) {
		if kind != record.Source {
			l = append(l, wrong{Write{Key: k, Rec: rec(kind, 1)}, api.ErrKind})
		}
	}
	return l
}

// wantCheck asks Check of writes.
func wantCheck(t *testing.T, want api.Errno, l ...Write) {
	t.Helper()
	was := slices.Clone(l)
	if err := Check(l...); err != want {
		t.Errorf("Check of %s: %d, not %d", show(was), err, want)
	}
	if !slices.Equal(l, was) {
		t.Errorf("Check made %s of %s", show(l), show(was))
	}
}

// P14.1: Check of no writes, of one, of 16, of 17, and of more, right or not.
func TestCheckMany(t *testing.T) {
	wantCheck(t, api.ErrArg)
	wantCheck(t, api.ErrArg, []Write{}...)
	wantCheck(t, api.ErrArg, make([]Write, 0, 9)...)
	for n := 1; n <= 40; n++ {
		right, wrongs, same := api.OK, api.ErrForm, api.ErrTwice
		if n > 16 {
			right, wrongs, same = api.ErrLong, api.ErrLong, api.ErrLong
		}
		if n == 1 {
			same = api.OK
		}
		wantCheck(t, right, sources(0, n, false)...)
		wantCheck(t, right, sources(0, n, true)...)
		wantCheck(t, wrongs, make([]Write, n)...)
		wantCheck(t, same, slices.Repeat(writes(1, "p/0"), n)...)
	}
	wantCheck(t, api.ErrLong, make([]Write, 100000)...)
}

// P14.1: right writes, of each kind, dead and not, and of each kind's key with each kind's record.
func TestCheckKinds(t *testing.T) {
	for _, k := range keysOf(six) {
		wantCheck(t, api.OK, Write{Key: k, Dead: true})
		for kind := range uint8(9) {
			want := api.ErrKind
			if kind == k.Kind {
				want = api.OK
			}
			for n := range 20 {
				wantCheck(t, want, Write{Key: k, Rec: rec(kind, n)})
			}
		}
	}
	wantCheck(t, api.OK, writes(3, six)...)
	wantCheck(t, api.OK, writes(3, "p/0! g/0/1! l/0/de b/0/1! s/0/0/a t/0/0/a/de!")...)
	wantCheck(t, api.OK, Write{Key: of("b/0/0"), Rec: record.Rec{Kind: record.Branch}}, Write{Key: of("b/0/3"), Rec: record.Rec{Kind: record.Branch, At: math.MaxUint64}})
}

// P14.1: each error of a write: which of its own comes first, at each place, ahead of and behind each other wrong one, and where its key stands ahead of it.
func TestCheckWrong(t *testing.T) {
	k := of("s/0/0/a")
	right := Write{Key: k, Rec: rec(record.Source, 2)}
	l := wrongs(k)
	for _, x := range l {
		for place := range 16 {
			row := sources(0, 16, place%2 == 0)
			row[place] = x.w
			wantCheck(t, x.err, row...)
			wantCheck(t, x.err, row[:place+1]...)
		}
		wantCheck(t, x.err, x.w, right)
		wantCheck(t, x.err, right, x.w)
		wantCheck(t, x.err, Write{Key: k, Dead: true}, x.w)
		wantCheck(t, api.ErrTwice, right, right, x.w)
		wantCheck(t, api.ErrTwice, right, Write{Key: k, Dead: true}, x.w)
		wantCheck(t, x.err, right, x.w, right)
		wantCheck(t, x.err, x.w, x.w)
		for _, y := range l {
			wantCheck(t, x.err, x.w, y.w)
		}
	}
}

// P14.1: a key that a write ahead has, dead or not, at all places; and keys that differ in one part alone.
func TestCheckTwice(t *testing.T) {
	for _, k := range keysOf(six) {
		for first := range 16 {
			for second := first + 1; second < 16; second++ {
				row := sources(0, 16, false)
				for n := range 4 {
					row[first] = []Write{{Key: k, Dead: true}, {Key: k, Rec: rec(k.Kind, 1)}}[n%2]
					row[second] = []Write{{Key: k, Dead: true}, {Key: k, Rec: rec(k.Kind, 1)}}[n/2]
					wantCheck(t, api.ErrTwice, row...)
					wantCheck(t, api.ErrTwice, row[first:second+1]...)
					wantCheck(t, api.OK, row[first:second]...)
				}
			}
		}
	}
	wantCheck(t, api.OK, writes(1, "t/0/0/a/de t/1/0/a/de t/0/1/a/de t/0/0/b/de t/0/0/a/fr t/0/0/a/de-AT s/0/0/a s/1/0/a s/0/1/a s/0/0/b l/0/de p/0 p/1 g/0/0 g/0/1 b/0/0")...)
}

// roomAt is a store with so many live keys, and what it must hold: those of sources from 0 on, and behind them two that are dead.
func roomAt(t *testing.T, n int) (*Store, *plain) {
	t.Helper()
	s, m := New(), &plain{}
	publish(t, s, m, sources(300, 2, false)...)
	publish(t, s, m, sources(300, 2, true)...)
	publishAll(t, s, m, sources(0, n, false))
	if s.Live() != n {
		t.Fatalf("Live: %d", s.Live())
	}
	return s, m
}

// wantRoom asks Room of writes.
func wantRoom(t *testing.T, s *Store, m *plain, want api.Errno, l ...Write) {
	t.Helper()
	if m.room(l) != want {
		t.Fatalf("for %s with %d live %d was asked for, not %d", show(l), m.live(), want, m.room(l))
	}
	checkWrites(t, s, *m, l...)
}

// P14.1: Room where 198, 199 and 200 keys are live, for writes of keys that are live, aren't, and are dead, and for dead writes of these.
func TestRoom(t *testing.T) {
	live, never, dead := sources(0, 3, false), sources(400, 3, false), sources(300, 2, false)
	noLive, noNever, noDead := sources(0, 3, true), sources(400, 3, true), sources(300, 2, true)
	for n := 198; n <= 200; n++ {
		s, m := roomAt(t, n)
		left := 200 - n
		full := func(more int) api.Errno {
			if more > left {
				return api.ErrFull
			}
			return api.OK
		}
		wantRoom(t, s, m, api.OK)
		wantRoom(t, s, m, api.OK, live...)
		wantRoom(t, s, m, api.OK, noLive...)
		wantRoom(t, s, m, api.OK, noNever...)
		wantRoom(t, s, m, api.OK, noDead...)
		for more := range 4 {
			wantRoom(t, s, m, full(more), never[:more]...)
			wantRoom(t, s, m, full(more), slices.Concat(live, never[:more])...)
			wantRoom(t, s, m, full(more), slices.Concat(noNever, noDead, never[:more])...)
			wantRoom(t, s, m, full(more), slices.Concat(never[:more], noNever, noDead)...)
			wantRoom(t, s, m, full(more-1), slices.Concat(never[:more], noLive[:1])...)
			wantRoom(t, s, m, full(more-2), slices.Concat(noLive[:2], never[:more])...)
		}
		for more := range 3 {
			wantRoom(t, s, m, full(more), dead[:more]...)
			wantRoom(t, s, m, full(more+1), slices.Concat(never[:1], dead[:more])...)
		}
	}
}

// P14.1: Room counts each write by itself, also of one key, of wrong ones, and of more writes than may be published.
func TestRoomEach(t *testing.T) {
	never, noNever, noLive, wrongs := sources(400, 1, false), sources(400, 1, true), sources(0, 1, true), []Write{{}, {Key: key.Key{Kind: 9}}}
	s, m := roomAt(t, 199)
	wantRoom(t, s, m, api.OK, never...)
	wantRoom(t, s, m, api.ErrFull, slices.Repeat(never, 2)...)
	wantRoom(t, s, m, api.ErrFull, slices.Concat(never, noNever, never)...)
	wantRoom(t, s, m, api.OK, slices.Concat(noLive, noLive, never, never, never)...)
	wantRoom(t, s, m, api.ErrFull, slices.Concat(noLive, noLive, slices.Repeat(never, 4))...)
	wantRoom(t, s, m, api.OK, wrongs[:1]...)
	wantRoom(t, s, m, api.ErrFull, wrongs...)
	wantRoom(t, s, m, api.OK, Write{Key: key.Key{Kind: 9}, Dead: true, Rec: record.Rec{Kind: 9}})
	wantRoom(t, s, m, api.OK, sources(0, 199, false)...)
	wantRoom(t, s, m, api.ErrFull, sources(0, 201, false)...)
	wantRoom(t, s, m, api.OK, slices.Concat(sources(0, 150, true), sources(500, 151, false))...)
	wantRoom(t, s, m, api.ErrFull, slices.Concat(sources(0, 150, true), sources(500, 152, false))...)
	empty := New()
	wantRoom(t, empty, &plain{}, api.OK, sources(0, 200, false)...)
	wantRoom(t, empty, &plain{}, api.ErrFull, sources(0, 201, false)...)
	wantRoom(t, empty, &plain{}, api.ErrFull, make([]Write, 201)...)
	if s.Last() != m.last || s.Live() != 199 {
		t.Errorf("Last: %d, Live: %d", s.Last(), s.Live())
	}
}
