package record

import (
	"math"
	"slices"
	"strings"
	"testing"

	"vulgate/api"
)

// P10.2: no bytes, and bytes that are no kind, whatever comes behind.
func TestReadNoKind(t *testing.T) {
	checkRead(t, nil, Rec{}, 0, api.ErrEnd)
	checkRead(t, []byte{}, Rec{}, 0, api.ErrEnd)
	for kind := range 256 {
		if kind >= Project && kind <= Trans {
			continue
		}
		for _, behind := range []string{"", "\x00", "\x01\x01\x01\x01", "\xff\xff\xff\xff\xff\xff\xff\xff\xff\xff\xff"} {
			checkReadError(t, string([]byte{byte(kind)})+behind, api.ErrKind)
		}
	}
}

// P10.2: each record, alone and with bytes behind it.
func TestReadRight(t *testing.T) {
	for _, r := range rightOnes() {
		b := modelBytes(r)
		for _, behind := range []string{"", "\x00", "\x03", "\x07", "\x80", "\xff", string(b), long(100)} {
			checkRead(t, append(b, behind...), r, len(b), api.OK)
		}
	}
}

// P10.2: each record's bytes, cut off at each place.
func TestReadCut(t *testing.T) {
	for _, r := range rightOnes() {
		b := modelBytes(r)
		for end := range b {
			checkRead(t, b[:end], Rec{}, 0, api.ErrEnd)
		}
	}
}

// P10.2: a Gone above 1, when all fields are there.
func TestReadGone(t *testing.T) {
	for gone := 2; gone < 256; gone++ {
		g := "\x05" + string([]byte{byte(gone)})
		for _, x := range []struct {
			behind string
			err    api.Errno
		}{
			{"\x01\x00", api.ErrRange}, {"\x01\x01a", api.ErrRange}, {"\x00\x00", api.ErrRange}, {"\x00\x01a", api.ErrRange}, {"\x01\x3c" + long(60), api.ErrRange}, {"\xff\xff\xff\xff\x0f\x00", api.ErrRange}, {"\x01\x00\x03", api.ErrRange},
			{"", api.ErrEnd}, {"\x01", api.ErrEnd}, {"\x80", api.ErrEnd}, {"\x01\x01", api.ErrEnd}, {"\x80\x00\x00", api.ErrForm}, {"\x01\x80\x00", api.ErrForm}, {"\x01\x3d", api.ErrLong}, {"\x01\x3d" + long(61), api.ErrLong}, {"\xff\xff\xff\xff\x10\x00", api.ErrRange},
		} {
			checkReadError(t, g+x.behind, x.err)
		}
	}
}

// P10.2: a Rev's errors, of a source and a translation, whatever its other fields are.
func TestReadRev(t *testing.T) {
	for _, x := range []struct {
		rev string
		err api.Errno
	}{
		{"", api.ErrEnd}, {"\x80", api.ErrEnd}, {"\xff\xff", api.ErrEnd}, {strings.Repeat("\x80", 9), api.ErrEnd}, {"\x80\x80\x80\x80\x10\x00", api.ErrRange}, {"\xff\xff\xff\xff\x10\x00", api.ErrRange}, {"\x80\x80\x80\x80\x20", api.ErrRange}, {"\x81\x80\x80\x80\x10\x00", api.ErrRange}, {strings.Repeat("\xff", 8) + "\x01\x00", api.ErrRange},
		{strings.Repeat("\xff", 9) + "\x01\x00", api.ErrRange}, {strings.Repeat("\x80", 9) + "\x01\x00", api.ErrRange}, {strings.Repeat("\xff", 9) + "\x02\x00", api.ErrForm}, {strings.Repeat("\x80", 10) + "\x00", api.ErrForm}, {strings.Repeat("\xff", 10), api.ErrForm}, {strings.Repeat("\xff", 9) + "\x00\x00", api.ErrForm},
		{"\x80\x00\x00", api.ErrForm}, {"\x81\x00\x00", api.ErrForm}, {"\xff\x80\x00\x3d", api.ErrForm}, {"\x00\x00", api.ErrRange}, {"\x00\x3c" + long(60), api.ErrRange},
		{"\x00", api.ErrEnd}, {"\x00\x01", api.ErrEnd}, {"\x00\x3d", api.ErrLong}, {"\x00\x80\x00", api.ErrForm}, {"\x80\x80\x80\x80\x10", api.ErrRange}, {"\x80\x80\x80\x80\x10\x3d", api.ErrRange}, {"\x80\x80\x80\x80\x10\x80\x00", api.ErrRange},
	} {
		for _, ahead := range []string{"\x05\x00", "\x05\x01", "\x05\x02", "\x06\x01\x00", "\x06\x05\x0f", "\x06\x00\x00", "\x06\x06\x10", "\x06\x01\x10"} {
			checkReadError(t, ahead+x.rev, x.err)
		}
	}
	checkRead(t, []byte("\x05\x00\xff\xff\xff\xff\x0f\x00"), Rec{Kind: Source, Rev: math.MaxUint32}, 8, api.OK)
	checkRead(t, []byte("\x06\x01\x00\xff\xff\xff\xff\x0f\x00"), Rec{Kind: Trans, State: 1, Rev: math.MaxUint32}, 9, api.OK)
}

// P10.2: an At's errors, ahead of those of bounds.
func TestReadAt(t *testing.T) {
	for _, x := range []struct {
		at  string
		err api.Errno
	}{
		{"", api.ErrEnd}, {"\x80", api.ErrEnd}, {strings.Repeat("\xff", 9), api.ErrEnd}, {"\x80\x00", api.ErrForm}, {"\xff\x00\x00", api.ErrForm}, {strings.Repeat("\xff", 9) + "\x02", api.ErrForm}, {strings.Repeat("\x80", 9) + "\x00", api.ErrForm}, {strings.Repeat("\xff", 9) + "\x81\x00", api.ErrForm},
	} {
		for _, ahead := range []string{"\x04\x00\x00", "\x04\x03\x01", "\x04\x04\x00", "\x04\x00\x02", "\x04\xff\xff"} {
			checkReadError(t, ahead+x.at, x.err)
		}
	}
	for _, b := range []string{"\x04\x04\x00\x00", "\x04\x00\x02\x00", "\x04\xff\x00\xac\x02", "\x04\x00\xff\xff\xff\xff\xff\xff\xff\xff\xff\xff\x01"} {
		checkReadError(t, b, api.ErrRange)
	}
	checkRead(t, []byte("\x04\x00\x00\xff\xff\xff\xff\xff\xff\xff\xff\xff\x01\x00"), Rec{Kind: Branch, At: math.MaxUint64}, 13, api.OK)
	checkRead(t, []byte("\x04\x00\x01\x80\x80\x80\x80\x80\x80\x80\x80\x80\x01"), Rec{Kind: Branch, State: Closed, At: 1 << 63}, 13, api.OK)
}

// P10.2: a text's errors: its number's, its length's, what is left.
func TestReadText(t *testing.T) {
	for _, x := range []struct {
		text string
		err  api.Errno
	}{
		{"", api.ErrEnd}, {"\x80", api.ErrEnd}, {"\xbc", api.ErrEnd}, {"\xbd", api.ErrEnd}, {"\xbc\x00" + long(60), api.ErrForm}, {"\x80\x00", api.ErrForm}, {strings.Repeat("\xff", 9) + "\x02", api.ErrForm}, {strings.Repeat("\xff", 9), api.ErrEnd},
		{"\x01", api.ErrEnd}, {"\x02a", api.ErrEnd}, {"\x3c", api.ErrEnd}, {"\x3c" + long(59), api.ErrEnd}, {"\x3d", api.ErrLong}, {"\x3d" + long(60), api.ErrLong}, {"\x3d" + long(61), api.ErrLong}, {"\x3d" + long(100), api.ErrLong}, {"\x7f" + long(127), api.ErrLong}, {"\x80\x01" + long(128), api.ErrLong}, {strings.Repeat("\xff", 9) + "\x01" + long(60), api.ErrLong}, {strings.Repeat("\x80", 9) + "\x01", api.ErrLong}, {"\xff\xff\xff\xff\x0f" + long(60), api.ErrLong}, {"\x80\x80\x80\x80\x10" + long(60), api.ErrLong},
	} {
		for _, ahead := range []string{"\x05\x00\x01", "\x05\x01\x01", "\x05\x02\x01", "\x05\x00\x00", "\x05\x02\x00", "\x06\x01\x00\x01", "\x06\x00\x00\x01", "\x06\x06\x00\x00", "\x06\x01\x10\xac\x02"} {
			checkReadError(t, ahead+x.text, x.err)
		}
	}
	checkRead(t, []byte("\x05\x00\x01\x3c"+long(61)), Rec{Kind: Source, Rev: 1, Text: long(60)}, 64, api.OK)
}

// P10.2: Check's errors, when all fields are there.
func TestReadCheck(t *testing.T) {
	for _, x := range []struct {
		b   string
		err api.Errno
	}{
		{"\x01\x10", api.ErrRange}, {"\x01\xff\x01", api.ErrRange}, {"\x02\x00", api.ErrRange}, {"\x02\x40", api.ErrRange}, {"\x02\xff", api.ErrRange},
		{"\x05\x00\x00\x00", api.ErrRange}, {"\x05\x01\x00\x00", api.ErrRange}, {"\x05\x01\x01\x01a", api.ErrForm}, {"\x05\x01\x01\x3c" + long(60), api.ErrForm}, {"\x05\x01\x00\x01a", api.ErrRange}, {"\x05\x01\x01\x01", api.ErrEnd}, {"\x05\x01\x01\x3d" + long(61), api.ErrLong}, {"\x05\x02\x01\x01a", api.ErrRange},
		{"\x06\x00\x00\x01\x00", api.ErrRange}, {"\x06\x06\x00\x01\x00", api.ErrRange}, {"\x06\x01\x10\x01\x00", api.ErrRange}, {"\x06\x01\x00\x00\x00", api.ErrRange}, {"\x06\x06\x10\x00\x00", api.ErrRange}, {"\x06\x06", api.ErrEnd}, {"\x06\x06\x10", api.ErrEnd}, {"\x06\x00\x10\x00", api.ErrEnd},
	} {
		checkReadError(t, x.b, x.err)
	}
}

// P10.2: all short rows of bytes that matter, by the chapter's words.
func TestReadShort(t *testing.T) {
	bytes := []byte{0, 1, 2, 3, 4, 5, 6, 7, 15, 16, 63, 64, 127, 128, 129, 255}
	rows := [][]byte{nil}
	for range 4 {
		var longer [][]byte
		for _, b := range rows {
			checkModel(t, b)
			for _, c := range bytes {
				longer = append(longer, append(slices.Clone(b), c))
			}
		}
		rows = longer
	}
	for _, b := range rows {
		checkModel(t, b)
	}
}

// P10.2: each byte of right records' bytes changed to each other one, with each one ahead, and left out, by the chapter's words.
func TestReadChanged(t *testing.T) {
	for _, r := range append(oneEach(), Rec{Kind: Branch, At: math.MaxUint64}, Rec{Kind: Source, Rev: math.MaxUint32, Text: long(60)}, Rec{Kind: Trans, State: 5, User: 15, Rev: 1 << 28, Text: long(60)}) {
		was := modelBytes(r)
		for at := range was {
			for c := range 256 {
				checkModel(t, slices.Concat(was[:at], []byte{byte(c)}, was[at+1:]))
				checkModel(t, slices.Concat(was[:at], []byte{byte(c)}, was[at:]))
			}
			checkModel(t, slices.Concat(was[:at], was[at+1:]))
		}
	}
}

// P10.2: rows of bytes made by chance, by the chapter's words.
func TestReadSome(t *testing.T) {
	var c chance
	right := 0
	for range 30000 {
		b := []byte{byte(1 + c.below(6))}
		for range c.below(20) {
			b = append(b, []byte{0, 1, 2, 5, 15, 60, 127, 128, 255, byte(c.below(256))}[c.below(10)])
		}
		checkModel(t, b)
		if _, _, err := Read(b); err == api.OK {
			right++
		}
	}
	if right < 1000 || right > 29000 {
		t.Errorf("%d right ones", right)
	}
}

// P10.2: what was read stays, whatever becomes of the bytes.
func TestReadKept(t *testing.T) {
	want := Rec{Kind: Trans, State: 3, User: 2, Rev: 300, Text: "Hallo"}
	b := modelBytes(want)
	r, _, _ := Read(b)
	l, _ := All(b)
	clear(b)
	if r != want || len(l) != 1 || l[0] != want {
		t.Errorf("%#v, %#v, not %#v", r, l, want)
	}
}
