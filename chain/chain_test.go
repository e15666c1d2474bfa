package chain

import (
	"fmt"
	"math"
	"slices"
	"strconv"
	"strings"
	"testing"

	"vulgate/api"
	"vulgate/record"
)

// recAt is a right record, of each time another one.
func recAt(at uint64) record.Rec {
	return record.Rec{Kind: record.Trans, State: 3, User: 2, Rev: 300, Text: strconv.FormatUint(at, 10)}
}

// live is a version of a time with that time's record.
func live(at uint64) Version {
	return Version{At: at, Rec: recAt(at)}
}

// dead is a dead version of a time.
func dead(at uint64) Version {
	return Version{At: at, Dead: true}
}

// of are the versions of a text: their times, with a - behind those that are dead.
func of(s string) []Version {
	var l []Version
	for _, word := range strings.Fields(s) {
		time, isDead := strings.CutSuffix(word, "-")
		at, err := strconv.ParseUint(time, 10, 64)
		if err != nil {
			panic(err)
		}
		if isDead {
			l = append(l, dead(at))
		} else {
			l = append(l, live(at))
		}
	}
	return l
}

// text tells versions as a text.
func text(l []Version) string {
	var words []string
	for _, v := range l[:min(len(l), 40)] {
		switch v {
		case live(v.At):
			words = append(words, fmt.Sprint(v.At))
		case dead(v.At):
			words = append(words, fmt.Sprint(v.At, "-"))
		default:
			words = append(words, fmt.Sprintf("%+v", v))
		}
	}
	return strings.Join(words, " ")
}

// rights are right records of each kind, and among them those that have least beside their kind.
func rights() []record.Rec {
	return []record.Rec{
		{Kind: record.Project}, {Kind: record.Project, User: 15}, {Kind: record.Grant, Mask: 1}, {Kind: record.Grant, Mask: 63}, {Kind: record.Locale}, {Kind: record.Branch}, {Kind: record.Branch, Parent: 3, State: record.Closed, At: math.MaxUint64},
		{Kind: record.Source, Rev: 1}, {Kind: record.Source, Rev: math.MaxUint32, Text: strings.Repeat("a", 60)}, {Kind: record.Source, Gone: true, Rev: 2}, {Kind: record.Trans, State: 1, Rev: 1}, {Kind: record.Trans, State: 5, User: 15, Rev: 300, Text: "Hallo"},
	}
}

// wrong is a record that isn't right, and what Check tells of it.
type wrong struct {
	r   record.Rec
	err api.Errno
}

// wrongs are records that aren't right, with each error that Check tells.
func wrongs() []wrong {
	return []wrong{
		{record.Rec{}, api.ErrKind}, {record.Rec{Kind: 7}, api.ErrKind}, {record.Rec{Kind: 255, Text: strings.Repeat("a", 61)}, api.ErrKind}, {record.Rec{User: 1}, api.ErrKind},
		{record.Rec{Kind: record.Locale, User: 1}, api.ErrForm}, {record.Rec{Kind: record.Locale, Gone: true}, api.ErrForm}, {record.Rec{Kind: record.Project, Rev: 1}, api.ErrForm}, {record.Rec{Kind: record.Project, At: 1, User: 16}, api.ErrForm}, {record.Rec{Kind: record.Source, Gone: true, Rev: 1, Text: "a"}, api.ErrForm},
		{record.Rec{Kind: record.Project, User: 16}, api.ErrRange}, {record.Rec{Kind: record.Grant}, api.ErrRange}, {record.Rec{Kind: record.Grant, Mask: 64}, api.ErrRange}, {record.Rec{Kind: record.Branch, Parent: 4}, api.ErrRange}, {record.Rec{Kind: record.Branch, State: 2}, api.ErrRange}, {record.Rec{Kind: record.Source}, api.ErrRange}, {record.Rec{Kind: record.Trans, Rev: 1}, api.ErrRange}, {record.Rec{Kind: record.Trans, State: 6, Rev: 1}, api.ErrRange},
		{record.Rec{Kind: record.Source, Rev: 1, Text: strings.Repeat("a", 61)}, api.ErrLong}, {record.Rec{Kind: record.Trans, State: 1, Rev: 1, Text: strings.Repeat("a", 61)}, api.ErrLong},
	}
}

// plain is what a chain must hold, by the chapter's words.
type plain []Version

// seen: the place of the newest version up to a time; -1 without any.
func (m plain) seen(time uint64) int {
	at := -1
	for i, v := range m {
		if v.At <= time {
			at = i
		}
	}
	return at
}

// at: what At must tell.
func (m plain) at(time uint64) (record.Rec, bool) {
	i := m.seen(time)
	if i < 0 || m[i].Dead {
		return record.Rec{}, false
	}
	return m[i].Rec, true
}

// newest: what Newest must tell.
func (m plain) newest() uint64 {
	if len(m) == 0 {
		return 0
	}
	return m[len(m)-1].At
}

// put: what Put must do and tell.
func (m *plain) put(l []Version) (int, api.Errno) {
	for i, v := range l {
		switch err := record.Check(v.Rec); {
		case v.Dead && v.Rec != record.Rec{}:
			return i, api.ErrForm
		case !v.Dead && err != api.OK:
			return i, err
		case v.At <= m.newest():
			return i, api.ErrOld
		}
		*m = append(*m, v)
	}
	return len(l), api.OK
}

// needed: is the version at a place the newest one, or, of some pin, the newest up to that?
func (m plain) needed(i int, pins []uint64) bool {
	return i == len(m)-1 || slices.ContainsFunc(pins, func(pin uint64) bool { return m.seen(pin) == i })
}

// trim: what Trim must do and tell.
func (m *plain) trim(pins []uint64) int {
	var left plain
	for i, v := range *m {
		if m.needed(i, pins) {
			left = append(left, v)
		}
	}
	for len(left) > 0 && left[0].Dead && !slices.ContainsFunc(pins, func(pin uint64) bool { return pin < left[0].At }) {
		left = left[1:]
	}
	many := len(*m) - len(left)
	*m = left
	return many
}

// around are times at which a chain's versions begin, one ahead of each and one behind it, others, and the least and the greatest one.
func around(l []Version, others ...uint64) []uint64 {
	times := append([]uint64{0, 1, math.MaxUint64}, others...)
	for _, v := range l {
		times = append(times, v.At-1, v.At, v.At+1)
	}
	return times
}

// checkChain holds all that is told of a chain against what it must be.
func checkChain(t *testing.T, c *Chain, m plain, others ...uint64) {
	t.Helper()
	if l := c.List(); !slices.Equal(l, m) || c.Len() != len(m) {
		t.Errorf("List: %s, Len: %d, not %s, %d", text(l), c.Len(), text(m), len(m))
	}
	isLive := len(m) > 0 && !m[len(m)-1].Dead
	if c.Newest() != m.newest() || c.Live() != isLive {
		t.Errorf("of %s Newest: %d, Live: %t, not %d, %t", text(m), c.Newest(), c.Live(), m.newest(), isLive)
	}
	for _, time := range around(m, others...) {
		want, there := m.at(time)
		if r, is := c.At(time); r != want || is != there {
			t.Errorf("of %s At(%d): %+v, %t, not %+v, %t", text(m), time, r, is, want, there)
		}
	}
}

// put puts versions into a chain and into what it must hold.
func put(t *testing.T, c *Chain, m *plain, l ...Version) {
	t.Helper()
	ahead := text(*m)
	want, wantErr := m.put(l)
	if many, err := c.Put(l...); many != want || err != wantErr {
		t.Errorf("Put of %s behind %s: %d, %d, not %d, %d", text(l), ahead, many, err, want, wantErr)
	}
}

// trim trims a chain and what it must hold, and holds the pins against what they were.
func trim(t *testing.T, c *Chain, m *plain, pins ...uint64) {
	t.Helper()
	ahead, was := text(*m), slices.Clone(pins)
	want := m.trim(pins)
	if many := c.Trim(pins...); many != want || c.Len() != len(*m) {
		t.Errorf("Trim of %s by %d: %d, %d left, not %d, %d", ahead, was, many, c.Len(), want, len(*m))
	}
	if !slices.Equal(pins, was) {
		t.Errorf("Trim made %d of %d", pins, was)
	}
}

// holding is a chain that holds versions, and what it must hold.
func holding(t *testing.T, l ...Version) (*Chain, plain) {
	t.Helper()
	var c Chain
	if many, err := c.Put(l...); many != len(l) || err != api.OK {
		t.Fatalf("Put of %s: %d, %d", text(l), many, err)
	}
	return &c, slices.Clone(l)
}

// chance tells numbers that look like chance, the same in each run.
type chance uint64

// below: a number below one that is above 0.
func (c *chance) below(n int) int {
	*c = *c*6364136223846793005 + 1442695040888963407
	return int(uint64(*c) >> 33 % uint64(n))
}

// P1, P12.1, P12.2, P12.3: a nil chain.
func TestNil(t *testing.T) {
	var c *Chain
	for _, l := range [][]Version{nil, {}, of("1"), of("1-"), of("1 2- 3"), {{}}, {{Dead: true}}, {{At: 1}}, {{At: 1, Dead: true, Rec: recAt(1)}}} {
		if many, err := c.Put(l...); many != 0 || err != api.ErrState {
			t.Errorf("Put of %s: %d, %d", text(l), many, err)
		}
	}
	for _, pins := range [][]uint64{nil, {}, {0}, {1, 2}, {math.MaxUint64}} {
		if many := c.Trim(pins...); many != 0 {
			t.Errorf("Trim by %d: %d", pins, many)
		}
	}
	checkChain(t, c, nil, 2, 5, 1<<63)
}

// P12.1, P12.2: the zero chain has no versions, and may be used.
func TestZero(t *testing.T) {
	var c Chain
	checkChain(t, &c, nil, 2, 5, 1<<63)
	for _, pins := range [][]uint64{nil, {}, {0}, {1, 2}, {math.MaxUint64}} {
		if many := c.Trim(pins...); many != 0 {
			t.Errorf("Trim by %d: %d", pins, many)
		}
		checkChain(t, &c, nil)
	}
	var m plain
	put(t, &c, &m, of("1")...)
	checkChain(t, &c, of("1"))
	d := &Chain{}
	checkChain(t, d, nil)
	checkChain(t, new(Chain), nil)
	put(t, d, new(plain), of("2-")...)
	checkChain(t, d, of("2-"))
	checkChain(t, &c, of("1"))
}
