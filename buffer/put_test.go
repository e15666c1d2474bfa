package buffer

import (
	"math"
	"slices"
	"strings"
	"testing"

	"vulgate/api"
	"vulgate/key"
	"vulgate/name"
	"vulgate/record"
	"vulgate/store"
	"vulgate/tag"
)

// wrongKeys are keys that aren't right, each by another part.
func wrongKeys() []key.Key {
	de, a := of("l/0/de").Tag, of("s/0/0/a").Name
	return []key.Key{
		{}, {Kind: 7}, {Kind: 255}, {Project: 1},
		{Kind: key.Project, Project: 4}, {Kind: key.Project, At: 1}, {Kind: key.Project, Name: a}, {Kind: key.Project, Tag: de},
		{Kind: key.Grant, At: 16}, {Kind: key.Grant, Tag: de},
		{Kind: key.Locale}, {Kind: key.Locale, At: 1, Tag: de}, {Kind: key.Locale, Tag: tag.Tag{Region: de.Region, Lang: [3]byte{'D', 'e'}}},
		{Kind: key.Branch, At: 4}, {Kind: key.Branch, Name: a},
		{Kind: key.Source}, {Kind: key.Source, Name: a, Tag: de}, {Kind: key.Source, Name: name.Name{0, 'a'}}, {Kind: key.Source, At: 4, Name: a},
		{Kind: key.Trans, Name: a}, {Kind: key.Trans, Tag: de}, {Kind: key.Trans, Project: 255, Name: a, Tag: de},
	}
}

// wrong is a write that has an error, and that.
type wrong struct {
	w   store.Write
	err api.Errno
}

// wrongRecs are records of a source that have an error, or several.
func wrongRecs() []wrong {
	long := strings.Repeat("a", 61)
	return []wrong{
		{store.Write{}, api.ErrKind}, {store.Write{Rec: record.Rec{Kind: 7}}, api.ErrKind}, {store.Write{Rec: record.Rec{Kind: 255, Text: long}}, api.ErrKind},
		{store.Write{Rec: rec(record.Project, 1)}, api.ErrKind}, {store.Write{Rec: rec(record.Trans, 1)}, api.ErrKind}, {store.Write{Rec: rec(record.Locale, 1)}, api.ErrKind},
		{store.Write{Rec: record.Rec{Kind: record.Source, Rev: 1, User: 1}}, api.ErrForm}, {store.Write{Rec: record.Rec{Kind: record.Source, Rev: 1, Gone: true, Text: "a"}}, api.ErrForm}, {store.Write{Rec: record.Rec{Kind: record.Locale, Text: "a"}}, api.ErrForm},
		{store.Write{Rec: record.Rec{Kind: record.Source}}, api.ErrRange}, {store.Write{Rec: record.Rec{Kind: record.Project, User: 16}}, api.ErrRange}, {store.Write{Rec: record.Rec{Kind: record.Trans, State: 6, Rev: 1}}, api.ErrRange},
		{store.Write{Rec: record.Rec{Kind: record.Source, Rev: 1, Text: long}}, api.ErrLong}, {store.Write{Rec: record.Rec{Kind: record.Trans, State: 1, Rev: 1, Text: long}}, api.ErrLong},
	}
}

// wrongs are writes with each error that Check tells of one alone: of a source's key, and of keys that aren't right.
func wrongs(k key.Key) []wrong {
	var l []wrong
	for _, x := range wrongRecs() {
		l = append(l, wrong{store.Write{Key: k, Rec: x.w.Rec}, x.err})
		if x.w.Rec != (record.Rec{}) {
			l = append(l, wrong{store.Write{Key: k, Dead: true, Rec: x.w.Rec}, api.ErrForm})
		}
	}
	l = append(l, wrong{store.Write{Key: k, Dead: true, Rec: rec(record.Source, 1)}, api.ErrForm}, wrong{store.Write{Key: k, Dead: true, Rec: record.Rec{Gone: true}}, api.ErrForm})
	for _, other := range wrongKeys() {
		l = append(l, wrong{store.Write{Key: other, Dead: true}, api.ErrForm}, wrong{store.Write{Key: other, Rec: rec(other.Kind, 1)}, api.ErrForm}, wrong{store.Write{Key: other, Rec: record.Rec{Kind: 9}}, api.ErrForm})
	}
	return l
}

// wantPut puts writes, and asks for an answer and for the writes behind it.
func wantPut(t *testing.T, b *bench, l []store.Write, many int, err api.Errno, behind []store.Write) {
	t.Helper()
	if n, e := b.x.Put(l...); n != many || e != err {
		t.Errorf("Put(%s): %d, %d, not %d, %d", show(l), n, e, many, err)
	}
	if got := b.x.Writes(); !slices.Equal(got, behind) {
		t.Errorf("Put(%s): behind it %s, not %s", show(l), show(got), show(behind))
	}
	b.m.put(l)
	b.check(t, keys("p/0 p/1 p/2 p/3 g/0/0 -")...)
}

// P17.1: how many were put, the first error, and which writes there are behind it; p/0 is written ahead of it, and p/1 dead.
func TestPut(t *testing.T) {
	rows := []struct {
		put    string
		many   int
		err    api.Errno
		behind string // those with a ' are as they were put, others as they were
	}{
		{"", 0, api.OK, "p/0 p/1!"},
		{"p/2", 1, api.OK, "p/0 p/1! p/2'"},
		{"p/2!", 1, api.OK, "p/0 p/1! p/2!"},
		{"g/0/0 p/2 p/3", 3, api.OK, "p/0 p/1! p/2' p/3' g/0/0'"},
		{"p/0", 1, api.OK, "p/0' p/1!"},
		{"p/0!", 1, api.OK, "p/0! p/1!"},
		{"p/1", 1, api.OK, "p/0 p/1'"},
		{"p/1!", 1, api.OK, "p/0 p/1!"},
		{"p/2 p/2", 2, api.OK, "p/0 p/1! p/2'"},
		{"p/2 p/2!", 2, api.OK, "p/0 p/1! p/2!"},
		{"p/2! p/2", 2, api.OK, "p/0 p/1! p/2'"},
		{"p/0! p/0", 2, api.OK, "p/0' p/1!"},
		{"p/1 p/0! p/1! p/0", 4, api.OK, "p/0' p/1!"},
		{"p/2 p/2! p/2 p/2!", 4, api.OK, "p/0 p/1! p/2!"},
		{"-", 0, api.ErrForm, "p/0 p/1!"},
		{"- p/2", 0, api.ErrForm, "p/0 p/1!"},
		{"p/2 - p/3", 1, api.ErrForm, "p/0 p/1! p/2'"},
		{"p/2 p/3 -", 2, api.ErrForm, "p/0 p/1! p/2' p/3'"},
		{"p/0 - p/1", 1, api.ErrForm, "p/0' p/1!"},
		{"p/2 p/2! - p/2", 2, api.ErrForm, "p/0 p/1! p/2!"},
		{"-! p/0!", 0, api.ErrForm, "p/0 p/1!"},
	}
	for _, r := range rows {
		b := empty()
		b.put(t, writes(1, "p/1! p/0")...)
		var behind []store.Write
		for _, word := range strings.Fields(r.behind) {
			text, anew := strings.CutSuffix(word, "'")
			n := 1
			if anew {
				n = 2
			}
			behind = append(behind, writes(n, text)...)
		}
		wantPut(t, b, writes(2, r.put), r.many, r.err, behind)
	}
}

// P17.1: each error of a write, at each place of a call: what is ahead of it is put, what is behind it isn't. Its key is written already, or isn't.
func TestPutWrong(t *testing.T) {
	k := of("s/0/0/b")
	ahead, behind := writes(2, "t/0/0/a/de p/0! s/0/0/a"), writes(2, "g/0/0 p/1!")
	for _, written := range []string{"", "s/0/0/b", "s/0/0/b!", "s/0/0/b p/0 p/1 g/0/0"} {
		for _, x := range wrongs(k) {
			for at := range len(ahead) + 1 {
				b := empty()
				b.put(t, writes(1, written)...)
				l := slices.Concat(ahead[:at], []store.Write{x.w}, behind)
				if many, err := b.x.Put(l...); many != at || err != x.err {
					t.Errorf("Put(%s): %d, %d, not %d, %d", show(l), many, err, at, x.err)
				}
				b.m.put(ahead[:at])
				b.check(t, append(keys("g/0/0 p/1 s/0/0/b"), x.w.Key)...)
			}
		}
	}
}

// P17.1: of two writes with an error the first one is told.
func TestPutWrongTwo(t *testing.T) {
	b := empty()
	b.put(t, writes(1, "s/0/0/b")...)
	l := wrongs(of("s/0/0/b"))
	for _, x := range l {
		for _, y := range l {
			if many, err := b.x.Put(writes(1, "p/0")[0], x.w, y.w); many != 1 || err != x.err {
				t.Errorf("Put(%v, %v): %d, %d, not %d", x.w, y.w, many, err, x.err)
			}
		}
	}
	b.m.put(writes(1, "p/0"))
	b.checkAll(t)
}

// P17.1: the 16th key is written, the 17th is ErrLong, whether they are put one by one or at once, dead or live.
func TestPutFull(t *testing.T) {
	for _, dead := range []bool{false, true} {
		l := firstWrites(24)
		if dead {
			for i := range l {
				l[i] = store.Write{Key: l[i].Key, Dead: true}
			}
		}
		one, once := empty(), empty()
		for i, w := range l {
			want, many := api.OK, 1
			if i >= 16 {
				want, many = api.ErrLong, 0
			}
			if n, err := one.x.Put(w); n != many || err != want || one.x.Len() != min(i+1, 16) {
				t.Errorf("Put of the write %d: %d, %d, %d written", i, n, err, one.x.Len())
			}
			one.m.put([]store.Write{w})
			one.check(t, everyKind()...)
		}
		for many := range len(l) + 1 {
			want := api.OK
			if many > 16 {
				want = api.ErrLong
			}
			once = empty()
			if n, err := once.x.Put(l[:many]...); n != min(many, 16) || err != want {
				t.Errorf("Put of %d writes: %d, %d", many, n, err)
			}
			once.m.put(l[:many])
			once.check(t, everyKind()...)
		}
	}
}

// full is a buffer with the first 16 of the tests' keys, every other one dead.
func full(t *testing.T) *bench {
	t.Helper()
	b := empty()
	for i, w := range firstWrites(16) {
		if i%2 == 1 {
			w = store.Write{Key: w.Key, Dead: true}
		}
		b.put(t, w)
	}
	return b
}

// P17.1: where 16 keys are written, each of them may be written anew, dead or live, but no other one; Check's error is told ahead of ErrLong, and what is behind ErrLong isn't put.
func TestPutFullAnew(t *testing.T) {
	b := full(t)
	was := b.x.Writes()
	for i, w := range was {
		k := w.Key
		for _, anew := range []store.Write{{Key: k, Dead: true}, {Key: k, Rec: rec(k.Kind, 5)}, {Key: k, Rec: rec(k.Kind, 6)}, {Key: k, Dead: true}} {
			if n, err := b.x.Put(anew); n != 1 || err != api.OK || b.x.Len() != 16 {
				t.Errorf("Put(%v): %d, %d", anew, n, err)
			}
			b.m.put([]store.Write{anew})
			b.check(t, everyKind()...)
		}
		other := everyKind()[16+i%8]
		wantPut(t, b, []store.Write{w, {Key: other, Dead: true}, {Key: k, Rec: rec(k.Kind, 9)}}, 1, api.ErrLong, was)
		wantPut(t, b, []store.Write{{Key: other, Rec: rec(other.Kind, 1)}, {Key: k, Rec: rec(k.Kind, 9)}}, 0, api.ErrLong, was)
	}
	for _, x := range wrongs(of("s/3/3/zz")) {
		wantPut(t, b, []store.Write{was[3], x.w, {Key: of("s/3/3/zz"), Dead: true}}, 1, x.err, was)
		wantPut(t, b, []store.Write{was[3], {Key: of("s/3/3/zz"), Dead: true}, x.w}, 1, api.ErrLong, was)
	}
}

// P17.1: each write is looked at alone: no writes are right, one key may be written again and again, and a call may have more writes than 16.
func TestPutAlone(t *testing.T) {
	for _, many := range []int{0, 1, 2, 15, 16, 17, 18, 100, 1000} {
		b := empty()
		l := slices.Repeat(writes(3, "p/0"), many)
		var want []store.Write
		if many > 0 {
			want = writes(3, "p/0")
		}
		wantPut(t, b, l, many, api.OK, want)
		b = full(t)
		sixteen := b.x.Writes()
		wantPut(t, b, slices.Repeat(sixteen, many), 16*many, api.OK, sixteen)
		wantPut(t, b, append(slices.Repeat(sixteen, many), writes(1, "t/3/3/zz/zu")...), 16*many, api.ErrLong, sixteen)
	}
}

// P17.1: a write is kept as it was put: a branch that says no time forks only when it is published.
func TestPutAsItIs(t *testing.T) {
	var x Buffer
	for _, at := range []uint64{0, 1, 1 << 40, math.MaxUint64} {
		for _, k := range keys("b/0/0 b/0/1 b/3/3") {
			w := store.Write{Key: k, Rec: record.Rec{Kind: record.Branch, Parent: 2, State: record.Closed, At: at}}
			if n, err := x.Put(w); n != 1 || err != api.OK {
				t.Errorf("Put(%v): %d, %d", w, n, err)
			}
			if got, is := x.Get(k); got != w || !is {
				t.Errorf("Get(%v): %v, %t, not %v", k, got, is, w)
			}
		}
	}
	w := store.Write{Key: of("s/0/0/a"), Rec: record.Rec{Kind: record.Source, Gone: true, Rev: math.MaxUint32}}
	long := store.Write{Key: of("t/0/0/a/de"), Rec: record.Rec{Kind: record.Trans, State: 5, User: 15, Rev: 1, Text: strings.Repeat("\xff", 60)}}
	if n, err := x.Put(w, long); n != 2 || err != api.OK {
		t.Errorf("Put: %d, %d", n, err)
	}
	if l := x.Writes(); len(l) != 5 || l[3] != w || l[4] != long {
		t.Errorf("Writes: %s", show(l))
	}
}

// P17.1: what is handed in isn't kept or changed, nor is the room behind it.
func TestPutHandedIn(t *testing.T) {
	const words = "p/1 p/0! p/1! g/0/0 s/0/0/a"
	room := writes(1, words)
	b := empty()
	b.put(t, room[:3]...)
	b.put(t, room[:2]...)
	b.put(t, append(room[:1:1], store.Write{})...)
	if !slices.Equal(room, writes(1, words)) {
		t.Errorf("handed in: %s", show(room))
	}
	for i := range room {
		room[i] = store.Write{Key: key.Key{Kind: 99}}
	}
	b.checkAll(t)
}
