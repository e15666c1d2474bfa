package record

import (
	"encoding/binary"
	"math"
	"slices"
	"strings"
	"testing"

	"vulgate/api"
)

// layout: the fields that a kind uses, in the order of their bytes, by letters: User, Mask, Parent, a Branch's state, a translation's State, Gone, Rev, At, Text. No kind has "-".
func layout(kind uint8) string {
	layouts := []string{"-", "U", "M", "", "PBA", "GRT", "SURT"}
	if int(kind) < len(layouts) {
		return layouts[kind]
	}
	return "-"
}

// modelCheck: what Check must tell, by the chapter's words.
func modelCheck(r Rec) api.Errno {
	l := layout(r.Kind)
	is := func(letters string) bool { return strings.ContainsAny(l, letters) }
	switch {
	case l == "-":
		return api.ErrKind
	case !is("U") && r.User != 0, !is("M") && r.Mask != 0, !is("P") && r.Parent != 0, !is("BS") && r.State != 0, !is("G") && r.Gone, !is("R") && r.Rev != 0, !is("A") && r.At != 0, !is("T") && r.Text != "":
		return api.ErrForm
	case is("U") && r.User > 15, is("M") && (r.Mask < 1 || r.Mask > 63), is("P") && r.Parent > 3, is("B") && r.State > 1, is("S") && (r.State < 1 || r.State > 5), is("R") && r.Rev < 1:
		return api.ErrRange
	case len(r.Text) > 60:
		return api.ErrLong
	case r.Gone && r.Text != "":
		return api.ErrForm
	}
	return api.OK
}

// modelBytes: a right record's bytes, by the chapter's words.
func modelBytes(r Rec) []byte {
	b := []byte{r.Kind}
	for _, letter := range layout(r.Kind) {
		switch letter {
		case 'U':
			b = append(b, r.User)
		case 'M':
			b = append(b, r.Mask)
		case 'P':
			b = append(b, r.Parent)
		case 'B', 'S':
			b = append(b, r.State)
		case 'G':
			b = append(b, map[bool]byte{true: 1}[r.Gone])
		case 'R':
			b = binary.AppendUvarint(b, uint64(r.Rev))
		case 'A':
			b = binary.AppendUvarint(b, r.At)
		case 'T':
			b = append(binary.AppendUvarint(b, uint64(len(r.Text))), r.Text...)
		}
	}
	return b
}

// modelNumber: a number that bytes begin with, how many bytes it has, and its error.
func modelNumber(b []byte) (uint64, int, api.Errno) {
	last := slices.IndexFunc(b, func(c byte) bool { return c < 128 })
	switch {
	case len(b) >= 10 && (last < 0 || last > 8) && b[9] > 1:
		return 0, 0, api.ErrForm
	case last < 0:
		return 0, 0, api.ErrEnd
	case last > 0 && b[last] == 0:
		return 0, 0, api.ErrForm
	}
	n, size := binary.Uvarint(b)
	return n, size, api.OK
}

// modelText: a text that bytes begin with, how many bytes it has, and its error.
func modelText(b []byte) (string, int, api.Errno) {
	n, size, err := modelNumber(b)
	switch {
	case err != api.OK:
		return "", 0, err
	case n > 60:
		return "", 0, api.ErrLong
	case size+int(n) > len(b):
		return "", 0, api.ErrEnd
	}
	return string(b[size : size+int(n)]), size + int(n), api.OK
}

// modelRead: what Read must tell, by the chapter's words.
func modelRead(b []byte) (Rec, int, api.Errno) {
	if len(b) == 0 {
		return Rec{}, 0, api.ErrEnd
	}
	if layout(b[0]) == "-" {
		return Rec{}, 0, api.ErrKind
	}
	r, at, beyond := Rec{Kind: b[0]}, 1, false
	for _, letter := range layout(b[0]) {
		rest, size, n, err := b[at:], 1, uint64(0), api.OK
		switch {
		case letter == 'R' || letter == 'A':
			n, size, err = modelNumber(rest)
			if err == api.OK && letter == 'R' && n > math.MaxUint32 {
				err = api.ErrRange
			}
		case letter == 'T':
			r.Text, size, err = modelText(rest)
		case len(rest) == 0:
			err = api.ErrEnd
		default:
			n = uint64(rest[0])
		}
		if err != api.OK {
			return Rec{}, 0, err
		}
		at += size
		switch letter {
		case 'U':
			r.User = uint8(n)
		case 'M':
			r.Mask = uint8(n)
		case 'P':
			r.Parent = uint8(n)
		case 'B', 'S':
			r.State = uint8(n)
		case 'G':
			r.Gone, beyond = n > 0, n > 1
		case 'R':
			r.Rev = uint32(n)
		case 'A':
			r.At = n
		}
	}
	if beyond {
		return Rec{}, 0, api.ErrRange
	}
	if err := modelCheck(r); err != api.OK {
		return Rec{}, 0, err
	}
	return r, at, api.OK
}

// long is a text of so many bytes.
func long(n int) string {
	return strings.Repeat("x", n)
}

// rightOnes are right records of each kind, with fields at their bounds and within them.
func rightOnes() []Rec {
	l := []Rec{{Kind: Locale}}
	revs := []uint32{1, 127, 128, 300, 1<<28 - 1, 1 << 28, math.MaxUint32}
	texts := []string{"", "a", "\x00", "\xff\x80", "{n} Dateien", "über", long(59), long(60)}
	for _, user := range []uint8{0, 1, 14, 15} {
		l = append(l, Rec{Kind: Project, User: user})
	}
	for _, mask := range []uint8{1, 2, 3, 32, 62, 63} {
		l = append(l, Rec{Kind: Grant, Mask: mask})
	}
	for _, parent := range []uint8{0, 1, 3} {
		for _, at := range []uint64{0, 1, 127, 128, 300, 1 << 32, 1<<63 - 1, 1 << 63, math.MaxUint64} {
			l = append(l, Rec{Kind: Branch, Parent: parent, State: Open, At: at}, Rec{Kind: Branch, Parent: parent, State: Closed, At: at})
		}
	}
	for _, rev := range revs {
		l = append(l, Rec{Kind: Source, Gone: true, Rev: rev})
		for _, s := range texts {
			l = append(l, Rec{Kind: Source, Rev: rev, Text: s})
			for _, state := range []uint8{1, 2, 5} {
				l = append(l, Rec{Kind: Trans, State: state, User: 0, Rev: rev, Text: s}, Rec{Kind: Trans, State: state, User: 15, Rev: rev, Text: s})
			}
		}
	}
	return l
}

// oneEach is a right record of each kind, with fields that aren't 0 where they may be so.
func oneEach() []Rec {
	return []Rec{
		{Kind: Project, User: 7}, {Kind: Grant, Mask: 5}, {Kind: Locale}, {Kind: Branch, Parent: 2, State: Closed, At: 300},
		{Kind: Source, Rev: 300, Text: "ab"}, {Kind: Source, Gone: true, Rev: 2}, {Kind: Trans, State: 3, User: 2, Rev: 300, Text: "Hallo"},
	}
}

// wrongOnes are records with an error each, of all errors and kinds.
func wrongOnes() []Rec {
	return []Rec{
		{}, {Kind: 7}, {Kind: 255}, {Kind: Project, User: 16}, {Kind: Project, Rev: 1}, {Kind: Grant}, {Kind: Grant, Mask: 64}, {Kind: Grant, Mask: 1, User: 1}, {Kind: Locale, Gone: true}, {Kind: Locale, Text: "a"},
		{Kind: Branch, State: 2}, {Kind: Branch, Parent: 4}, {Kind: Branch, Rev: 1}, {Kind: Source}, {Kind: Source, Rev: 1, At: 1}, {Kind: Source, Rev: 1, Text: long(61)}, {Kind: Source, Rev: 1, Gone: true, Text: "a"},
		{Kind: Trans, Rev: 1}, {Kind: Trans, Rev: 1, State: 6}, {Kind: Trans, State: 1}, {Kind: Trans, State: 1, Rev: 1, Gone: true}, {Kind: Trans, State: 1, Rev: 1, User: 16}, {Kind: Trans, State: 1, Rev: 1, Text: long(61)},
	}
}

// brief tells bytes that aren't too many.
func brief(b []byte) []byte {
	return b[:min(len(b), 80)]
}

// checkOne holds Check's and Bytes' error of a record against what they must be, and its bytes.
func checkOne(t *testing.T, r Rec, want api.Errno) {
	t.Helper()
	if err := Check(r); err != want {
		t.Errorf("Check(%#v) is %d, not %d", r, err, want)
	}
	var bytes []byte
	if want == api.OK {
		bytes = modelBytes(r)
	}
	checkBytes(t, []Rec{r}, bytes, want)
}

// checkBytes holds the bytes of records against what they must be, and the records handed in against what they were.
func checkBytes(t *testing.T, l []Rec, want []byte, wantErr api.Errno) {
	t.Helper()
	was := slices.Clone(l)
	if b, err := Bytes(l...); !slices.Equal(b, want) || err != wantErr {
		t.Errorf("Bytes of %d records %#v is %x, %d, not %x, %d", len(l), was[:min(len(l), 3)], brief(b), err, brief(want), wantErr)
	}
	if !slices.Equal(l, was) {
		t.Errorf("Bytes made of %#v %#v", was, l)
	}
}

// checkRead holds what Read tells of bytes against what it must, and the bytes handed in against what they were.
func checkRead(t *testing.T, b []byte, want Rec, wantSize int, wantErr api.Errno) {
	t.Helper()
	was := slices.Clone(b)
	if r, n, err := Read(b); r != want || n != wantSize || err != wantErr {
		t.Errorf("Read(%x) is %#v, %d, %d, not %#v, %d, %d", brief(was), r, n, err, want, wantSize, wantErr)
	}
	if !slices.Equal(b, was) {
		t.Errorf("Read made of %x %x", brief(was), brief(b))
	}
}

// checkReadError: bytes of which no record is read, but this error.
func checkReadError(t *testing.T, b string, want api.Errno) {
	t.Helper()
	checkRead(t, []byte(b), Rec{}, 0, want)
	checkAll(t, []byte(b), nil, want)
}

// checkModel holds what Read tells of bytes against the model.
func checkModel(t *testing.T, b []byte) {
	t.Helper()
	r, n, err := modelRead(b)
	checkRead(t, b, r, n, err)
}

// checkAll holds what All tells of bytes against what it must, and the bytes handed in against what they were.
func checkAll(t *testing.T, b []byte, want []Rec, wantErr api.Errno) {
	t.Helper()
	was := slices.Clone(b)
	if l, err := All(b); !slices.Equal(l, want) || err != wantErr {
		t.Errorf("All(%x) is %d records, %d, not %d, %d", brief(was), len(l), err, len(want), wantErr)
	}
	if !slices.Equal(b, was) {
		t.Errorf("All made of %x %x", brief(was), brief(b))
	}
}

// chance is a row of numbers, the same ones each time.
type chance uint64

// below is the next number below most.
func (c *chance) below(most int) int {
	*c = *c*6364136223846793005 + 1442695040888963407
	return int(uint64(*c) >> 33 % uint64(most))
}

// some are so many of a list's records, one or another.
func (c *chance) some(l []Rec, many int) []Rec {
	var s []Rec
	for range many {
		s = append(s, l[c.below(len(l))])
	}
	return s
}
