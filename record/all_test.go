package record

import (
	"slices"
	"testing"

	"vulgate/api"
)

// P10.2: no bytes, one record, several, and the same several times.
func TestAll(t *testing.T) {
	checkAll(t, nil, nil, api.OK)
	checkAll(t, []byte{}, nil, api.OK)
	checkAll(t, []byte("\x03"), []Rec{{Kind: Locale}}, api.OK)
	checkAll(t, []byte("\x03\x01\x02\x03"), []Rec{{Kind: Locale}, {Kind: Project, User: 2}, {Kind: Locale}}, api.OK)
	for _, r := range rightOnes() {
		checkAll(t, modelBytes(r), []Rec{r}, api.OK)
		checkAll(t, slices.Repeat(modelBytes(r), 3), slices.Repeat([]Rec{r}, 3), api.OK)
	}
	checkAll(t, slices.Repeat([]byte("\x03"), 300000), slices.Repeat([]Rec{{Kind: Locale}}, 300000), api.OK)
}

// P10.2: bytes behind the last record.
func TestAllBehind(t *testing.T) {
	for _, r := range oneEach() {
		for _, x := range []struct {
			behind string
			err    api.Errno
		}{
			{"\x00", api.ErrKind}, {"\x07", api.ErrKind}, {"\xff", api.ErrKind}, {"\x01", api.ErrEnd}, {"\x02", api.ErrEnd}, {"\x04\x00\x00", api.ErrEnd}, {"\x05\x00\x01\x01", api.ErrEnd}, {"\x06\x01", api.ErrEnd}, {"\x03\x00", api.ErrKind}, {"\x01\x10", api.ErrRange}, {"\x05\x01\x01\x01a", api.ErrForm}, {"\x05\x00\x01\x3d", api.ErrLong},
		} {
			checkAll(t, append(modelBytes(r), x.behind...), nil, x.err)
		}
	}
}

// P10.2: the error of the first of several records that has one, and none of them told.
func TestAllErrors(t *testing.T) {
	wrong := []struct {
		b   string
		err api.Errno
	}{{"\x00", api.ErrKind}, {"\x07", api.ErrKind}, {"\x01\x10", api.ErrRange}, {"\x02\x00", api.ErrRange}, {"\x04\x00\x00\x80\x00", api.ErrForm}, {"\x05\x02\x01\x00", api.ErrRange}, {"\x05\x00\x01\x3d", api.ErrLong}, {"\x05\x00\xff\xff\xff\xff\x10\x00", api.ErrRange}, {"\x05\x01\x01\x01a", api.ErrForm}, {"\x06\x06\x00\x01\x00", api.ErrRange}, {"\x06\x01\x00\x80\x00\x00", api.ErrForm}}
	for _, a := range wrong {
		for at := range len(oneEach()) + 1 {
			var b []byte
			for _, r := range oneEach()[:at] {
				b = append(b, modelBytes(r)...)
			}
			b = append(b, a.b...)
			for _, r := range oneEach()[at:] {
				b = append(b, modelBytes(r)...)
			}
			checkAll(t, b, nil, a.err)
		}
		for _, other := range wrong {
			checkAll(t, []byte(a.b+other.b), nil, a.err)
			checkAll(t, []byte("\x03"+a.b+"\x03"+other.b), nil, a.err)
		}
		checkAll(t, []byte(a.b+"\x01"), nil, a.err)
	}
}

// modelAll: what All must tell: what Read must, one behind the other.
func modelAll(b []byte) ([]Rec, api.Errno) {
	var l []Rec
	for len(b) > 0 {
		r, n, err := modelRead(b)
		if err != api.OK {
			return nil, err
		}
		l, b = append(l, r), b[n:]
	}
	return l, api.OK
}

// P10.2: rows of records made by chance, whole, cut off, and with a byte changed, by the chapter's words.
func TestAllSome(t *testing.T) {
	var c chance
	right, wrong := 0, 0
	for range 20000 {
		var b []byte
		for _, r := range c.some(rightOnes(), 1+c.below(5)) {
			b = append(b, modelBytes(r)...)
		}
		switch c.below(3) {
		case 0:
			b = b[:c.below(len(b))]
		case 1:
			b[c.below(len(b))] = byte(c.below(256))
		}
		l, err := modelAll(b)
		checkAll(t, b, l, err)
		if err != api.OK {
			wrong++
		} else if len(l) > 1 {
			right++
		}
	}
	if right < 5000 || wrong < 5000 {
		t.Errorf("%d rows of several right ones, %d wrong ones", right, wrong)
	}
}

// P10.3: rows of records of every kind are read as they were written, one behind the other, by All and by Read.
func TestRows(t *testing.T) {
	var c chance
	for range 2000 {
		l := c.some(rightOnes(), c.below(12))
		b, err := Bytes(l...)
		if err != api.OK {
			t.Fatalf("Bytes(%#v): %d", l, err)
		}
		checkAll(t, b, l, api.OK)
		for _, r := range l {
			checkRead(t, b, r, len(modelBytes(r)), api.OK)
			_, n, _ := Read(b)
			b = b[n:]
		}
		checkRead(t, b, Rec{}, 0, api.ErrEnd)
	}
}

// P10.3: unlike right records have unlike bytes, of which none begins with another one's.
func TestUnlike(t *testing.T) {
	l := rightOnes()
	for _, r := range product() {
		if modelCheck(r) == api.OK {
			l = append(l, r)
		}
	}
	by := map[string]Rec{}
	for _, r := range l {
		b, err := Bytes(r)
		if other, is := by[string(b)]; err != api.OK || is && other != r {
			t.Errorf("%#v, %#v have the bytes %x (%d)", r, other, b, err)
		}
		by[string(b)] = r
	}
	for s, r := range by {
		for end := range s {
			if other, is := by[s[:end]]; is {
				t.Errorf("the bytes of %#v begin with those of %#v", r, other)
			}
		}
	}
}
