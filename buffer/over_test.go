package buffer

import (
	"slices"
	"strings"
	"testing"

	"vulgate/key"
	"vulgate/store"
)

// overs are entries of a text's words: those with a ' have the writes' record, the others the entries'.
func overs(s string) []store.Entry {
	var l []store.Entry
	for _, word := range strings.Fields(s) {
		text, written := strings.CutSuffix(word, "'")
		if written {
			l = append(l, entries(2, text)...)
		} else {
			l = append(l, entries(1, text)...)
		}
	}
	return l
}

// P17.3: writes ahead of all entries, between them, behind them, and at an entry's key, dead and live, in the prefix and outside of it.
func TestOver(t *testing.T) {
	const some = "p/1 g/0/1 s/0/0/b t/0/0/b/de"
	rows := []struct {
		written, entries, prefix, over string
	}{
		{"", "", "-:0", ""},
		{"", some, "-:0", some},
		{"p/1", "", "-:0", "p/1'"},
		{"p/1!", "", "-:0", ""},
		{"t/0/0/a/de p/0 s/0/0/a!", "", "-:0", "p/0' t/0/0/a/de'"},
		{"p/0", some, "-:0", "p/0' p/1 g/0/1 s/0/0/b t/0/0/b/de"},
		{"p/0!", some, "-:0", some},
		{"p/2", some, "-:0", "p/1 p/2' g/0/1 s/0/0/b t/0/0/b/de"},
		{"l/0/de b/0/1 g/0/0", some, "-:0", "p/1 g/0/0' g/0/1 l/0/de' b/0/1' s/0/0/b t/0/0/b/de"},
		{"p/2! l/0/de!", some, "-:0", some},
		{"t/1/0/a/de", some, "-:0", some + " t/1/0/a/de'"},
		{"t/1/0/a/de t/0/0/c/de", some, "-:0", some + " t/0/0/c/de' t/1/0/a/de'"},
		{"t/1/0/a/de!", some, "-:0", some},
		{"p/1", some, "-:0", "p/1' g/0/1 s/0/0/b t/0/0/b/de"},
		{"p/1!", some, "-:0", "g/0/1 s/0/0/b t/0/0/b/de"},
		{"s/0/0/b", some, "-:0", "p/1 g/0/1 s/0/0/b' t/0/0/b/de"},
		{"s/0/0/b!", some, "-:0", "p/1 g/0/1 t/0/0/b/de"},
		{"t/0/0/b/de", some, "-:0", "p/1 g/0/1 s/0/0/b t/0/0/b/de'"},
		{"t/0/0/b/de!", some, "-:0", "p/1 g/0/1 s/0/0/b"},
		{"p/1 g/0/1 s/0/0/b t/0/0/b/de", some, "-:0", "p/1' g/0/1' s/0/0/b' t/0/0/b/de'"},
		{"p/1! g/0/1! s/0/0/b! t/0/0/b/de!", some, "-:0", ""},
		{"t/3/3/z/zu g/0/1! p/0 s/0/0/b l/0/de p/1! b/0/0!", some, "-:0", "p/0' l/0/de' s/0/0/b' t/0/0/b/de t/3/3/z/zu'"},
		{"p/0 p/2 p/1", some, "g/0/0:1", some},
		{"p/0 p/2 p/1! g/0/1! g/0/0 g/1/0", some, "g/0/0:1", "p/1 g/0/0' g/1/0' s/0/0/b t/0/0/b/de"},
		{"p/1! p/0", some, "p/3:1", "p/0' g/0/1 s/0/0/b t/0/0/b/de"},
		{"p/1! p/0", some, "p/1:2", "g/0/1 s/0/0/b t/0/0/b/de"},
		{"p/1! p/0", some, "p/0:2", "p/0' p/1 g/0/1 s/0/0/b t/0/0/b/de"},
		{"p/1! p/0 p/2", some, "p/3:2", some},
		{"p/1! p/0 p/2", some, "p/1:-1", some},
		{"p/1! p/0 p/2", some, "p/1:6", some},
		{"p/1! p/0 p/2", some, "-:6", some},
		{"s/0/0/a s/0/0/b s/0/0/c s/0/1/b s/1/0/b", some, "s/0/0/b:5", "p/1 g/0/1 s/0/0/b' t/0/0/b/de"},
		{"s/0/0/a s/0/0/b! s/0/0/c s/0/1/b s/1/0/b", some, "s/0/0/z:3", "p/1 g/0/1 s/0/0/a' s/0/0/c' t/0/0/b/de"},
		{"s/0/0/a s/0/0/b! s/0/0/c s/0/1/b s/1/0/b", some, "s/0/0/z:2", "p/1 g/0/1 s/0/0/a' s/0/0/c' s/0/1/b' t/0/0/b/de"},
		{"t/0/0/b/de-AT t/0/0/b/en t/0/0/a/de t/0/0/b/de! t/0/1/b/de", some, "t/0/0/b/fr:4", "p/1 g/0/1 s/0/0/b t/0/0/b/de-AT' t/0/0/b/en'"},
	}
	for _, r := range rows {
		b := empty()
		b.put(t, writes(2, r.written)...)
		p := prefixes(r.prefix)[0]
		if l := b.x.Over(entries(1, r.entries), p); !slices.Equal(l, overs(r.over)) {
			t.Errorf("of %s Over(%s; %s): %s, not %s", r.written, r.entries, r.prefix, showEntries(l), r.over)
		}
		b.over(t, entries(1, r.entries), p)
		b.checkAll(t)
	}
}

// P17.3: all choices of five keys as entries, with all choices of them not written, live and dead, in two prefixes.
func TestOverAll(t *testing.T) {
	five := keys("g/0/0 s/0/0/a s/0/0/b s/0/1/a t/0/0/a/de")
	for n := range 3 * 3 * 3 * 3 * 3 {
		b := empty()
		for i, rest := len(five)-1, n; i >= 0; i, rest = i-1, rest/3 {
			if rest%3 > 0 {
				b.put(t, store.Write{Key: five[i], Rec: rec(five[i].Kind, 2)})
			}
			if rest%3 > 1 {
				b.put(t, store.Write{Key: five[i], Dead: true})
			}
		}
		for some := range 1 << len(five) {
			var l []store.Entry
			for i, k := range five {
				if some>>i&1 == 1 {
					l = append(l, store.Entry{Key: k, Rec: rec(k.Kind, 1)})
				}
			}
			b.over(t, l, all())
			b.over(t, l, key.Prefix{Key: five[1], Depth: 3})
		}
	}
}

// P17.3: prefixes of each depth and beyond, of keys that are written, that aren't, and that aren't right.
func TestOverDepths(t *testing.T) {
	b := full(t)
	l := everyKind()
	var some []store.Entry
	for i, k := range l {
		if i%3 > 0 {
			some = append(some, store.Entry{Key: k, Rec: rec(k.Kind, 4)})
		}
	}
	for _, k := range append(l, wrongKeys()...) {
		for _, depth := range depths() {
			b.over(t, some, key.Prefix{Key: k, Depth: depth})
			b.over(t, nil, key.Prefix{Key: k, Depth: depth})
		}
	}
}

// P17.3: entries are told as they are, whatever their records and keys are, right or not, as long as they rise.
func TestOverAsTheyAre(t *testing.T) {
	b := empty()
	b.put(t, writes(2, "p/0 p/1! b/0/1 t/0/0/a/de")...)
	var odd []store.Entry
	for i, k := range append(wrongKeys(), keys("p/1 p/2 b/0/1")...) {
		odd = append(odd, store.Entry{Key: k, Rec: rec(9, i)})
		odd[i].Rec.Text = strings.Repeat("x", 5*i)
	}
	slices.SortFunc(odd, func(d, e store.Entry) int { return byKey(d.Key, e.Key) })
	for _, p := range prefixes("-:0 p/1:1 p/1:2 b/0/1:3 b/0/2:3 s/0/0/a:5") {
		b.over(t, odd, p)
	}
}

// P17.3: Over ends of entries that don't rise, with and without writes, and changes nothing; those that aren't written over stay.
func TestOverNotRising(t *testing.T) {
	rows := []string{"p/1 p/1", "p/2 p/1", "p/1 p/2 p/1 p/2", "t/0/0/a/de p/0 - s/0/0/a p/0", "- - - -", "p/3 p/2 p/1 p/0"}
	for _, s := range rows {
		for _, b := range []*bench{empty(), full(t)} {
			l := entries(1, s)
			for _, p := range prefixes("-:0 p/1:2 p/1:1 s/0/0/a:3 p/1:6") {
				b.x.Over(l, p)
				b.x.Over(slices.Repeat(l, 500), p)
			}
			if !slices.Equal(l, entries(1, s)) {
				t.Errorf("handed in: %s", showEntries(l))
			}
			b.checkAll(t)
		}
		if l := empty().x.Over(entries(1, s), all()); !slices.Equal(l, entries(1, s)) {
			t.Errorf("of nothing Over(%s): %s", s, showEntries(l))
		}
	}
}

// P17.3: what is handed in isn't kept or changed, nor is the room behind it.
func TestOverHandedIn(t *testing.T) {
	const words = "p/0 p/1 s/0/0/a t/0/0/a/de t/1/0/a/de"
	for _, written := range []string{"", "p/1!", "p/0! p/1! s/0/0/a!", "p/2", "p/0 g/0/0 g/0/1 g/0/2 l/0/de"} {
		b := empty()
		b.put(t, writes(2, written)...)
		room := entries(1, words)
		over := b.x.Over(room[:3], all())
		want := slices.Clone(over)
		if !slices.Equal(room, entries(1, words)) {
			t.Errorf("handed in: %s", showEntries(room))
		}
		clear(room)
		if !slices.Equal(over, want) {
			t.Errorf("told %s, then %s", showEntries(want), showEntries(over))
		}
		b.checkAll(t)
	}
}

// P1, P17.3: very many entries, with 16 writes.
func TestOverLarge(t *testing.T) {
	b := empty()
	var l []store.Entry
	for n := range 4 * 4 * 26 * 26 * 8 {
		k := key.Key{Kind: key.Source, Project: uint8(n / (4 * 26 * 26 * 8)), At: uint8(n / (26 * 26 * 8) % 4)}
		k.Name[0], k.Name[1], k.Name[2] = 'a'+byte(n/(26*8)%26), 'a'+byte(n/8%26), '0'+byte(n%8)
		switch {
		case n%6000 == 17:
			b.put(t, store.Write{Key: k, Rec: rec(key.Source, 2)})
		case n%6000 == 18:
			l = append(l, store.Entry{Key: k, Rec: rec(key.Source, 1)})
			b.put(t, store.Write{Key: k, Dead: true})
		default:
			l = append(l, store.Entry{Key: k, Rec: rec(key.Source, 1)})
		}
	}
	if b.x.Len() != 16 {
		t.Errorf("Len: %d", b.x.Len())
	}
	b.over(t, l, all())
	b.over(t, l, key.Prefix{Key: l[len(l)-1].Key, Depth: 2})
	b.over(t, nil, all())
}
