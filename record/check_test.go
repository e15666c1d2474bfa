package record

import (
	"math"
	"testing"

	"vulgate/api"
)

// P10.1: right records of each kind.
func TestCheckRight(t *testing.T) {
	for _, l := range [][]Rec{rightOnes(), oneEach()} {
		for _, r := range l {
			checkOne(t, r, api.OK)
		}
	}
}

// P10.1: bytes that are no kind, whatever the fields are.
func TestCheckNoKind(t *testing.T) {
	for kind := range 256 {
		if kind >= Project && kind <= Trans {
			continue
		}
		for _, r := range []Rec{{}, {User: 1}, {Mask: 1}, {State: 1}, {Parent: 1}, {Gone: true}, {Rev: 1}, {At: 1}, {Text: "a"}, {User: 16, Mask: 64}, {Text: long(61)}, {Gone: true, Text: "a"}} {
			r.Kind = uint8(kind)
			checkOne(t, r, api.ErrKind)
		}
	}
}

// P10.1: each field that a kind uses, at its bounds and beyond them.
func TestCheckBounds(t *testing.T) {
	for _, x := range []struct {
		r   Rec
		err api.Errno
	}{
		{Rec{Kind: Project}, 0}, {Rec{Kind: Project, User: 15}, 0}, {Rec{Kind: Project, User: 16}, api.ErrRange}, {Rec{Kind: Project, User: 255}, api.ErrRange},
		{Rec{Kind: Grant}, api.ErrRange}, {Rec{Kind: Grant, Mask: 1}, 0}, {Rec{Kind: Grant, Mask: 63}, 0}, {Rec{Kind: Grant, Mask: 64}, api.ErrRange}, {Rec{Kind: Grant, Mask: 255}, api.ErrRange},
		{Rec{Kind: Locale}, 0},
		{Rec{Kind: Branch}, 0}, {Rec{Kind: Branch, Parent: 3}, 0}, {Rec{Kind: Branch, Parent: 4}, api.ErrRange}, {Rec{Kind: Branch, Parent: 255}, api.ErrRange}, {Rec{Kind: Branch, State: 1}, 0}, {Rec{Kind: Branch, State: 2}, api.ErrRange}, {Rec{Kind: Branch, State: 255}, api.ErrRange}, {Rec{Kind: Branch, At: 1}, 0}, {Rec{Kind: Branch, At: math.MaxUint64}, 0},
		{Rec{Kind: Source}, api.ErrRange}, {Rec{Kind: Source, Rev: 1}, 0}, {Rec{Kind: Source, Rev: math.MaxUint32}, 0}, {Rec{Kind: Source, Rev: 1, Text: long(60)}, 0}, {Rec{Kind: Source, Rev: 1, Text: long(61)}, api.ErrLong}, {Rec{Kind: Source, Rev: 1, Text: long(5000)}, api.ErrLong},
		{Rec{Kind: Source, Rev: 1, Gone: true}, 0}, {Rec{Kind: Source, Rev: 1, Gone: true, Text: "a"}, api.ErrForm}, {Rec{Kind: Source, Rev: 1, Gone: true, Text: "\x00"}, api.ErrForm}, {Rec{Kind: Source, Rev: 1, Gone: true, Text: long(60)}, api.ErrForm}, {Rec{Kind: Source, Gone: true}, api.ErrRange},
		{Rec{Kind: Trans, Rev: 1}, api.ErrRange}, {Rec{Kind: Trans, State: 1}, api.ErrRange}, {Rec{Kind: Trans, State: 1, Rev: 1}, 0}, {Rec{Kind: Trans, State: 5, Rev: 1}, 0}, {Rec{Kind: Trans, State: 6, Rev: 1}, api.ErrRange}, {Rec{Kind: Trans, State: 255, Rev: 1}, api.ErrRange}, {Rec{Kind: Trans, State: 1, Rev: math.MaxUint32}, 0},
		{Rec{Kind: Trans, State: 1, Rev: 1, User: 15}, 0}, {Rec{Kind: Trans, State: 1, Rev: 1, User: 16}, api.ErrRange}, {Rec{Kind: Trans, State: 1, Rev: 1, Text: long(60)}, 0}, {Rec{Kind: Trans, State: 1, Rev: 1, Text: long(61)}, api.ErrLong},
	} {
		checkOne(t, x.r, x.err)
	}
}

// P10.1: each byte in each small field, while all others are right.
func TestCheckEachByte(t *testing.T) {
	for _, r := range oneEach() {
		for n := range 256 {
			for _, field := range []func(r *Rec) *uint8{func(r *Rec) *uint8 { return &r.State }, func(r *Rec) *uint8 { return &r.User }, func(r *Rec) *uint8 { return &r.Parent }, func(r *Rec) *uint8 { return &r.Mask }} {
				other := r
				*field(&other) = uint8(n)
				checkOne(t, other, modelCheck(other))
			}
		}
	}
}

// P10.1: each field that a kind doesn't use, set while all others are right.
func TestCheckUnused(t *testing.T) {
	set := map[rune][]func(r *Rec){
		'S': {func(r *Rec) { r.State = 1 }, func(r *Rec) { r.State = 255 }},
		'U': {func(r *Rec) { r.User = 1 }, func(r *Rec) { r.User = 255 }},
		'P': {func(r *Rec) { r.Parent = 1 }, func(r *Rec) { r.Parent = 255 }},
		'M': {func(r *Rec) { r.Mask = 1 }, func(r *Rec) { r.Mask = 255 }},
		'G': {func(r *Rec) { r.Gone = true }},
		'R': {func(r *Rec) { r.Rev = 1 }, func(r *Rec) { r.Rev = math.MaxUint32 }},
		'A': {func(r *Rec) { r.At = 1 }, func(r *Rec) { r.At = 1 << 32 }, func(r *Rec) { r.At = math.MaxUint64 }},
		'T': {func(r *Rec) { r.Text = "a" }, func(r *Rec) { r.Text = "\x00" }, func(r *Rec) { r.Text = long(61) }},
	}
	unused := map[uint8]string{Project: "SPMGRAT", Grant: "SUPGRAT", Locale: "SUPMGRAT", Branch: "UMGRT", Source: "SUPMA", Trans: "PMGA"}
	for _, r := range oneEach() {
		for _, letter := range unused[r.Kind] {
			for _, f := range set[letter] {
				other := r
				f(&other)
				checkOne(t, other, api.ErrForm)
			}
		}
	}
}

// P10.1: several faults in one record: what the kind doesn't use, then numbers, then the text's length, then a text of what is gone.
func TestCheckOrder(t *testing.T) {
	for _, x := range []struct {
		r   Rec
		err api.Errno
	}{
		{Rec{Kind: 0, State: 9, User: 16, Rev: 1, Text: long(61)}, api.ErrKind}, {Rec{Kind: 7, Gone: true, Text: "a"}, api.ErrKind},
		{Rec{Kind: Project, User: 16, Mask: 1}, api.ErrForm}, {Rec{Kind: Project, User: 16, Text: long(61)}, api.ErrForm}, {Rec{Kind: Grant, At: 1}, api.ErrForm}, {Rec{Kind: Branch, State: 2, Rev: 1}, api.ErrForm},
		{Rec{Kind: Source, State: 1}, api.ErrForm}, {Rec{Kind: Source, Rev: 1, At: 1, Text: long(61)}, api.ErrForm}, {Rec{Kind: Source, Text: long(61)}, api.ErrRange}, {Rec{Kind: Source, Gone: true, Text: "a"}, api.ErrRange}, {Rec{Kind: Source, Gone: true, Text: long(61)}, api.ErrRange}, {Rec{Kind: Source, Gone: true, Rev: 1, Text: long(61)}, api.ErrLong}, {Rec{Kind: Source, Gone: true, Rev: 1, Text: long(60)}, api.ErrForm},
		{Rec{Kind: Trans, State: 6, Rev: 1, Mask: 1}, api.ErrForm}, {Rec{Kind: Trans, State: 1, Rev: 1, Gone: true, Text: long(61)}, api.ErrForm}, {Rec{Kind: Trans, State: 1, Rev: 0, Text: long(61)}, api.ErrRange}, {Rec{Kind: Trans, State: 6, Rev: 1, Text: long(61)}, api.ErrRange}, {Rec{Kind: Trans, State: 1, Rev: 1, User: 16, Text: long(61)}, api.ErrRange},
	} {
		checkOne(t, x.r, x.err)
	}
}

// P10.1: all fields at their bounds and beyond, with one another, in all kinds, by the chapter's words.
func TestCheckProduct(t *testing.T) {
	right := 0
	for _, r := range product() {
		want := modelCheck(r)
		if err := Check(r); err != want {
			t.Fatalf("Check(%#v) is %d, not %d", r, err, want)
		}
		if want == api.OK {
			right++
			checkBytes(t, []Rec{r}, modelBytes(r), api.OK)
		}
	}
	if right != 57 {
		t.Errorf("%d right ones, not 57", right)
	}
}

// product is all fields at their bounds and beyond, with one another, in all kinds.
func product() []Rec {
	l := []Rec{{}}
	with := func(many int, set func(r *Rec, i int)) {
		var next []Rec
		for _, r := range l {
			for i := range many {
				set(&r, i)
				next = append(next, r)
			}
		}
		l = next
	}
	with(9, func(r *Rec, i int) { r.Kind = []uint8{0, 1, 2, 3, 4, 5, 6, 7, 255}[i] })
	with(5, func(r *Rec, i int) { r.State = []uint8{0, 1, 2, 5, 6}[i] })
	with(3, func(r *Rec, i int) { r.User = []uint8{0, 15, 16}[i] })
	with(3, func(r *Rec, i int) { r.Parent = []uint8{0, 3, 4}[i] })
	with(4, func(r *Rec, i int) { r.Mask = []uint8{0, 1, 63, 64}[i] })
	with(2, func(r *Rec, i int) { r.Gone = i == 1 })
	with(3, func(r *Rec, i int) { r.Rev = []uint32{0, 1, math.MaxUint32}[i] })
	with(2, func(r *Rec, i int) { r.At = []uint64{0, math.MaxUint64}[i] })
	with(4, func(r *Rec, i int) { r.Text = []string{"", "a", long(60), long(61)}[i] })
	return l
}
