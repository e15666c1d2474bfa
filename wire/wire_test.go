package wire

import (
	"encoding/binary"
	"math"
	"slices"
	"strings"
	"testing"

	"vulgate/api"
)

// kind is one of the fields that there are.
type kind int

const (
	aByte kind = iota
	aShort
	aWord
	aNumber
	aText
	kinds
)

// field is a field with its value: a number, or a text.
type field struct {
	kind kind
	n    uint64
	s    string
}

// bytes are a field's bytes by the chapter's words.
func (f field) bytes() []byte {
	switch f.kind {
	case aByte:
		return []byte{byte(f.n)}
	case aShort:
		return binary.BigEndian.AppendUint16(nil, uint16(f.n))
	case aWord:
		return binary.BigEndian.AppendUint64(nil, f.n)
	case aNumber:
		return binary.AppendUvarint(nil, f.n)
	}
	return append(binary.AppendUvarint(nil, uint64(len(f.s))), f.s...)
}

// write writes a field by its call.
func (f field) write(w *Writer) *Writer {
	switch f.kind {
	case aByte:
		return w.Byte(byte(f.n))
	case aShort:
		return w.Short(int(f.n))
	case aWord:
		return w.Word(f.n)
	case aNumber:
		return w.Number(f.n)
	}
	return w.Text(f.s)
}

// read reads a field of that kind by its call, with most as great as the field is.
func (f field) read(r *Reader) field {
	switch f.kind {
	case aByte:
		return field{aByte, uint64(r.Byte()), ""}
	case aShort:
		return field{aShort, uint64(r.Short()), ""}
	case aWord:
		return field{aWord, r.Word(), ""}
	case aNumber:
		return field{aNumber, r.Number(f.n), ""}
	}
	return field{aText, 0, r.Text(len(f.s))}
}

// fields are those that the tests go through: edges of each kind.
func fields() []field {
	var l []field
	for _, n := range []uint64{0, 1, 127, 128, 254, 255} {
		l = append(l, field{aByte, n, ""})
	}
	for _, n := range []uint64{0, 1, 127, 128, 255, 256, 258, 32767, 32768, 65280, 65534, 65535} {
		l = append(l, field{aShort, n, ""})
	}
	for _, n := range []uint64{0, 1, 127, 128, 255, 256, 300, 65535, 65536, 1<<14 - 1, 1 << 14, 1<<32 - 1, 1 << 32, 1<<56 | 9, 1<<63 - 1, 1 << 63, 0x0102030405060708, 0xf0e1d2c3b4a59687, math.MaxUint64 - 1, math.MaxUint64} {
		l = append(l, field{aWord, n, ""}, field{aNumber, n, ""})
	}
	for _, s := range []string{"", "a", "ab", "\x00", "\x00\x00", "\xff\x80", "über", "{n} Dateien", strings.Repeat("x", 127), strings.Repeat("y", 128), strings.Repeat("z", 1200), strings.Repeat("\xff", 20000)} {
		l = append(l, field{aText, 0, s})
	}
	return l
}

// brief is a field's value, not too long to be told.
func (f field) brief() field {
	f.s = f.s[:min(len(f.s), 20)]
	return f
}

// checkWriter holds what a writer tells against what it must.
func checkWriter(t *testing.T, w *Writer, want []byte, wantErr api.Errno) {
	t.Helper()
	if got, err := w.Bytes(); !slices.Equal(got, want) || err != wantErr {
		t.Errorf("Bytes is %.40x (%d), %d, not %.40x (%d), %d", got, len(got), err, want, len(want), wantErr)
	}
}

// checkReader holds what a reader tells of itself against what it must.
func checkReader(t *testing.T, r *Reader, left int, err, done api.Errno) {
	t.Helper()
	if r.Left() != left || r.Err() != err || r.Done() != done || r.Err() != err {
		t.Errorf("Left is %d, Err %d, Done %d, not %d, %d, %d", r.Left(), r.Err(), r.Done(), left, err, done)
	}
}

// P3.1: the bytes of each field, written out.
func TestWriteFields(t *testing.T) {
	for _, x := range []struct {
		w    *Writer
		want []byte
	}{
		{NewWriter(9), nil}, {NewWriter(9).Byte(), nil}, {NewWriter(9).Byte(7), []byte{7}}, {NewWriter(9).Byte(7, 0, 255), []byte{7, 0, 255}},
		{NewWriter(9).Short(0), []byte{0, 0}}, {NewWriter(9).Short(258), []byte{1, 2}}, {NewWriter(9).Short(255), []byte{0, 255}}, {NewWriter(9).Short(256), []byte{1, 0}}, {NewWriter(9).Short(65535), []byte{255, 255}},
		{NewWriter(9).Word(0), make([]byte, 8)}, {NewWriter(9).Word(0x0102030405060708), []byte{1, 2, 3, 4, 5, 6, 7, 8}}, {NewWriter(9).Word(math.MaxUint64), slices.Repeat([]byte{255}, 8)},
		{NewWriter(9).Number(0), []byte{0}}, {NewWriter(9).Number(127), []byte{127}}, {NewWriter(9).Number(128), []byte{128, 1}}, {NewWriter(9).Number(300), []byte{172, 2}},
		{NewWriter(9).Text(""), []byte{0}}, {NewWriter(9).Text("ab"), []byte{2, 97, 98}}, {NewWriter(9).Text("\x00\xff"), []byte{2, 0, 255}}, {NewWriter(200).Text(strings.Repeat("a", 130)), append([]byte{130, 1}, slices.Repeat([]byte{97}, 130)...)},
		{NewWriter(9).Byte(7).Short(258).Text("ab"), []byte{7, 1, 2, 2, 97, 98}}, {NewWriter(9).Text("ab").Short(258).Byte(7), []byte{2, 97, 98, 1, 2, 7}},
	} {
		checkWriter(t, x.w, x.want, api.OK)
	}
	for _, f := range fields() {
		checkWriter(t, f.write(NewWriter(math.MaxInt)), f.bytes(), api.OK)
	}
}

// P3.1: a call tells that very writer, without an error and with one.
func TestWriterIsTold(t *testing.T) {
	for _, room := range []int{0, 40000} {
		w := NewWriter(room)
		for _, f := range fields() {
			if f.write(w) != w {
				t.Errorf("%v tells another writer", f.brief())
			}
		}
		if w.Byte() != w || w.Short(-1) != w {
			t.Error("another writer")
		}
	}
}

// P3.1: a field is written where there is room for all of it, and ErrLong where there isn't, whatever stands ahead.
func TestRoom(t *testing.T) {
	for _, ahead := range []string{"", "a", strings.Repeat("b", 150)} {
		first := field{aText, 0, ahead}
		for _, f := range fields() {
			want := append(first.bytes(), f.bytes()...)
			checkWriter(t, f.write(first.write(NewWriter(len(want)))), want, api.OK)
			checkWriter(t, f.write(first.write(NewWriter(len(want)+1))), want, api.OK)
			checkWriter(t, f.write(first.write(NewWriter(len(want)-1))), nil, api.ErrLong)
			checkWriter(t, f.write(first.write(NewWriter(len(first.bytes())))), nil, api.ErrLong)
			checkWriter(t, f.write(first.write(NewWriter(0))), nil, api.ErrLong)
		}
	}
	for _, x := range []struct {
		w    *Writer
		want []byte
		err  api.Errno
	}{
		{NewWriter(0), nil, api.OK}, {NewWriter(0).Byte(), nil, api.OK}, {NewWriter(0).Text(""), nil, api.ErrLong}, {NewWriter(0).Number(0), nil, api.ErrLong},
		{NewWriter(3).Byte(1, 2, 3), []byte{1, 2, 3}, api.OK}, {NewWriter(3).Byte(1, 2, 3, 4), nil, api.ErrLong}, {NewWriter(3).Byte(1, 2, 3).Byte(), []byte{1, 2, 3}, api.OK},
		{NewWriter(3).Byte(1).Short(5), []byte{1, 0, 5}, api.OK}, {NewWriter(3).Byte(1, 2).Short(5), nil, api.ErrLong},
	} {
		checkWriter(t, x.w, x.want, x.err)
	}
}

// P3.1: a room below 0 is 0.
func TestRoomBelow(t *testing.T) {
	for _, room := range []int{-1, -2, -100, math.MinInt32, math.MinInt + 1, math.MinInt} {
		checkWriter(t, NewWriter(room), nil, api.OK)
		checkWriter(t, NewWriter(room).Byte(), nil, api.OK)
		for _, f := range fields() {
			checkWriter(t, f.write(NewWriter(room)), nil, api.ErrLong)
		}
	}
}

// P3.1: ErrRange of a Short out of its bounds, ahead of ErrLong.
func TestShortRange(t *testing.T) {
	for _, n := range []int{-1, -2, -65535, -65536, 65536, 65537, 1 << 17, 1<<32 + 5, math.MinInt, math.MaxInt} {
		for _, room := range []int{-1, 0, 1, 2, 9} {
			checkWriter(t, NewWriter(room).Short(n), nil, api.ErrRange)
		}
		checkWriter(t, NewWriter(1).Byte(1).Short(n), nil, api.ErrRange)
		checkWriter(t, NewWriter(0).Byte(1).Short(n), nil, api.ErrLong) // of the byte, which was the first one
	}
	for _, n := range []int{0, 65535} {
		checkWriter(t, NewWriter(1).Short(n), nil, api.ErrLong)
	}
}

// P3.1: a writer keeps the first error, and writes nothing behind it, though there would be room.
func TestWriterFirstError(t *testing.T) {
	for _, f := range fields() {
		long, wrong := NewWriter(20).Byte(1).Text(strings.Repeat("a", 30)), NewWriter(40000).Byte(1).Short(-1)
		checkWriter(t, f.write(long), nil, api.ErrLong)
		checkWriter(t, f.write(wrong), nil, api.ErrRange)
	}
	checkWriter(t, NewWriter(3).Byte(1).Short(5).Byte(2).Byte(3), nil, api.ErrLong)
	checkWriter(t, NewWriter(3).Word(1).Short(65536), nil, api.ErrLong)
	checkWriter(t, NewWriter(3).Short(65536).Word(1), nil, api.ErrRange)
	checkWriter(t, NewWriter(2).Byte(1, 2, 3).Byte().Byte(4), nil, api.ErrLong)
}

// P3.1: what Bytes tells is new memory, and a writer goes on behind it.
func TestBytesNewMemory(t *testing.T) {
	w := NewWriter(9).Byte(1, 2, 3)
	first, _ := w.Bytes()
	second, _ := w.Bytes()
	for i := range first {
		first[i] = 99
	}
	_ = append(first, 98)
	_ = append(second, 97)
	checkWriter(t, w, []byte{1, 2, 3}, api.OK)
	w.Byte(4)
	_ = append(second[:3:cap(second)], 96)
	checkWriter(t, w, []byte{1, 2, 3, 4}, api.OK)
	if !slices.Equal(second, []byte{1, 2, 3}) {
		t.Errorf("what was told became %v", second)
	}
	checkWriter(t, w.Word(5), nil, api.ErrLong)
	checkWriter(t, w, nil, api.ErrLong)
}

// P3.1: bytes that are handed in are neither kept nor changed.
func TestByteKeepsNothing(t *testing.T) {
	l := []byte{1, 2, 3, 4, 5, 6}
	w := NewWriter(9).Byte(l[:3]...).Byte(9)
	if !slices.Equal(l, []byte{1, 2, 3, 4, 5, 6}) {
		t.Errorf("the bytes handed in became %v", l)
	}
	l[0] = 99
	checkWriter(t, w, []byte{1, 2, 3, 9}, api.OK)
}

// P3.1: writers have nothing in common.
func TestTwoWriters(t *testing.T) {
	a, b := NewWriter(4), NewWriter(4)
	a.Byte(1)
	b.Word(1)
	a.Byte(2)
	checkWriter(t, a, []byte{1, 2}, api.OK)
	checkWriter(t, b, nil, api.ErrLong)
}

// P3.2: each field is read from its bytes, whatever comes behind; of each beginning of them, ErrEnd, and the place stays.
func TestReadFields(t *testing.T) {
	for _, f := range fields() {
		b := f.bytes()
		for _, behind := range [][]byte{nil, {0}, {1}, {128}, {255, 255}} {
			r, done := NewReader(append(slices.Clone(b), behind...)), api.OK
			if len(behind) > 0 {
				done = api.ErrForm
			}
			if got := f.read(r); got != f {
				t.Errorf("%v is read as %v", f.brief(), got.brief())
			}
			checkReader(t, r, len(behind), api.OK, done)
		}
		for i := range b[:min(len(b), 140)] {
			for _, ahead := range [][]byte{nil, {7, 8}} {
				r := NewReader(append(slices.Clone(ahead), b[:i]...))
				for range ahead {
					r.Byte()
				}
				if got := f.read(r); got != (field{kind: f.kind}) {
					t.Errorf("%d bytes of %v are read as %v", i, f.brief(), got.brief())
				}
				checkReader(t, r, i, api.ErrEnd, api.ErrEnd)
			}
		}
	}
}

// P3.2: the bytes written out, field by field, one behind the other.
func TestReadRow(t *testing.T) {
	r := NewReader([]byte{7, 1, 2, 1, 2, 3, 4, 5, 6, 7, 8, 172, 2, 2, 97, 98, 255, 255, 0})
	checkReader(t, r, 19, api.OK, api.ErrForm)
	if n := r.Byte(); n != 7 || r.Left() != 18 {
		t.Errorf("Byte is %d, %d left", n, r.Left())
	}
	if n := r.Short(); n != 258 || r.Left() != 16 {
		t.Errorf("Short is %d, %d left", n, r.Left())
	}
	if n := r.Word(); n != 0x0102030405060708 || r.Left() != 8 {
		t.Errorf("Word is %x, %d left", n, r.Left())
	}
	if n := r.Number(300); n != 300 || r.Left() != 6 {
		t.Errorf("Number is %d, %d left", n, r.Left())
	}
	if s := r.Text(2); s != "ab" || r.Left() != 3 {
		t.Errorf("Text is %q, %d left", s, r.Left())
	}
	if n := r.Short(); n != 65535 || r.Left() != 1 {
		t.Errorf("Short is %d, %d left", n, r.Left())
	}
	checkReader(t, r, 1, api.OK, api.ErrForm)
	if s := r.Text(0); s != "" {
		t.Errorf("Text is %q", s)
	}
	checkReader(t, r, 0, api.OK, api.OK)
}

// P3.2: Number, with its errors, the place staying.
func TestReadNumber(t *testing.T) {
	nine := slices.Repeat([]byte{128}, 9)
	with := func(b ...byte) []byte { return append(slices.Clone(nine), b...) }
	for _, x := range []struct {
		b    []byte
		most uint64
		want uint64
		left int
		err  api.Errno
	}{
		{[]byte{0}, 0, 0, 0, api.OK}, {[]byte{0, 5}, math.MaxUint64, 0, 1, api.OK}, {[]byte{127}, 127, 127, 0, api.OK}, {[]byte{172, 2}, 300, 300, 0, api.OK}, {[]byte{172, 2, 0}, 301, 300, 1, api.OK},
		{with(1), 1 << 63, 1 << 63, 0, api.OK}, {append(slices.Repeat([]byte{255}, 9), 1), math.MaxUint64, math.MaxUint64, 0, api.OK},
		{[]byte{1}, 0, 0, 1, api.ErrRange}, {[]byte{172, 2}, 299, 0, 2, api.ErrRange}, {[]byte{172, 2, 0}, 0, 0, 3, api.ErrRange}, {with(1), 1<<63 - 1, 0, 10, api.ErrRange}, {append(slices.Repeat([]byte{255}, 9), 1), math.MaxUint64 - 1, 0, 10, api.ErrRange},
		{nil, 9, 0, 0, api.ErrEnd}, {[]byte{128}, 0, 0, 1, api.ErrEnd}, {[]byte{255}, 9, 0, 1, api.ErrEnd}, {nine, 0, 0, 9, api.ErrEnd},
		{[]byte{128, 0}, 9, 0, 2, api.ErrForm}, {[]byte{129, 0, 7}, 0, 0, 3, api.ErrForm}, {with(2), math.MaxUint64, 0, 10, api.ErrForm}, {with(2), 0, 0, 10, api.ErrForm}, {with(129, 1), 0, 0, 11, api.ErrForm}, {with(0), 0, 0, 10, api.ErrForm},
	} {
		r := NewReader(x.b)
		if got := r.Number(x.most); got != x.want {
			t.Errorf("Number(%d) of %v is %d, not %d", x.most, x.b, got, x.want)
		}
		done := x.err
		if done == api.OK && x.left > 0 {
			done = api.ErrForm
		}
		checkReader(t, r, x.left, x.err, done)
	}
}

// P3.2: Text, with its errors in their order, the place staying.
func TestReadText(t *testing.T) {
	huge := append(slices.Repeat([]byte{255}, 9), 1)
	half := append(slices.Repeat([]byte{128}, 9), 1)
	greatest := append(slices.Repeat([]byte{255}, 8), 127)
	for _, x := range []struct {
		b    []byte
		most int
		want string
		left int
		err  api.Errno
	}{
		{[]byte{0}, 0, "", 0, api.OK}, {[]byte{0}, 5, "", 0, api.OK}, {[]byte{0, 97}, -1, "", 1, api.OK}, {[]byte{0}, math.MinInt, "", 0, api.OK}, {[]byte{1, 97}, 1, "a", 0, api.OK}, {[]byte{2, 97, 98, 99}, 2, "ab", 1, api.OK}, {[]byte{2, 97, 98}, math.MaxInt, "ab", 0, api.OK}, {[]byte{2, 0, 255}, 60, "\x00\xff", 0, api.OK},
		{nil, 5, "", 0, api.ErrEnd}, {nil, -5, "", 0, api.ErrEnd}, {[]byte{128}, 0, "", 1, api.ErrEnd}, {[]byte{128, 0}, 0, "", 2, api.ErrForm}, {[]byte{130, 0, 97, 98}, 5, "", 4, api.ErrForm}, {append(slices.Repeat([]byte{128}, 9), 2), 0, "", 10, api.ErrForm},
		{[]byte{1, 97}, 0, "", 2, api.ErrLong}, {[]byte{1, 97}, -1, "", 2, api.ErrLong}, {[]byte{1, 97}, math.MinInt, "", 2, api.ErrLong}, {[]byte{3, 97, 98}, 2, "", 3, api.ErrLong}, {[]byte{3, 97, 98, 99}, 2, "", 4, api.ErrLong}, {[]byte{1}, 0, "", 1, api.ErrLong},
		{[]byte{3, 97, 98}, 3, "", 3, api.ErrEnd}, {[]byte{1}, 1, "", 1, api.ErrEnd}, {[]byte{3}, math.MaxInt, "", 1, api.ErrEnd},
		{huge, math.MaxInt, "", 10, api.ErrLong}, {half, math.MaxInt, "", 10, api.ErrLong}, {huge, -1, "", 10, api.ErrLong}, {greatest, math.MaxInt, "", 9, api.ErrEnd}, {append(slices.Clone(greatest), 97), math.MaxInt, "", 10, api.ErrEnd}, {greatest, math.MaxInt - 1, "", 9, api.ErrLong},
	} {
		r := NewReader(x.b)
		if got := r.Text(x.most); got != x.want {
			t.Errorf("Text(%d) of %v is %q, not %q", x.most, x.b, got, x.want)
		}
		done := x.err
		if done == api.OK && x.left > 0 {
			done = api.ErrForm
		}
		checkReader(t, r, x.left, x.err, done)
	}
}

// P3.2: a reader keeps the first error; behind it all values are zero, and the place stays, though the bytes would do.
func TestReaderFirstError(t *testing.T) {
	b := []byte{1, 2, 97, 98, 1, 1, 1, 1, 1, 1, 1, 1}
	for _, x := range []struct {
		b    []byte
		err  api.Errno
		fail func(r *Reader)
	}{
		{b, api.ErrRange, func(r *Reader) { r.Number(1) }},
		{b, api.ErrLong, func(r *Reader) { r.Text(1) }},
		{[]byte{1, 130, 0, 1, 97, 1, 1, 1, 1, 1, 1, 1, 1, 1}, api.ErrForm, func(r *Reader) { r.Number(math.MaxUint64) }},
		{[]byte{1, 9, 97, 1, 1, 1, 1, 1, 1}, api.ErrEnd, func(r *Reader) { r.Text(9) }},
		{[]byte{1, 2, 97, 98, 1, 1, 1, 1}, api.ErrEnd, func(r *Reader) { r.Word() }},
	} {
		r := NewReader(x.b)
		r.Byte()
		x.fail(r)
		checkReader(t, r, len(x.b)-1, x.err, x.err)
		for _, again := range []func(){
			func() { checkZero(t, uint64(r.Byte()), "") }, func() { checkZero(t, uint64(r.Short()), "") }, func() { checkZero(t, r.Word(), "") }, func() { checkZero(t, r.Number(math.MaxUint64), "") }, func() { checkZero(t, 0, r.Text(60)) },
			func() { checkZero(t, r.Number(0), "") }, func() { checkZero(t, 0, r.Text(0)) }, func() { x.fail(r) },
		} {
			again()
			checkReader(t, r, len(x.b)-1, x.err, x.err)
		}
	}
}

// checkZero holds what was read against zero values.
func checkZero(t *testing.T, n uint64, s string) {
	t.Helper()
	if n != 0 || s != "" {
		t.Errorf("behind an error %d, %q", n, s)
	}
}

// P3.2: a reader without bytes, and one that was asked whether it is done, ahead of its end.
func TestReaderEnds(t *testing.T) {
	for _, b := range [][]byte{nil, {}} {
		r := NewReader(b)
		checkReader(t, r, 0, api.OK, api.OK)
		checkZero(t, uint64(r.Byte()), "")
		checkReader(t, r, 0, api.ErrEnd, api.ErrEnd)
	}
	r := NewReader([]byte{5, 6})
	checkReader(t, r, 2, api.OK, api.ErrForm)
	if r.Byte() != 5 {
		t.Error("Done moved the place, or is an error that is kept")
	}
	checkReader(t, r, 1, api.OK, api.ErrForm)
	if r.Byte() != 6 {
		t.Error("Done moved the place, or is an error that is kept")
	}
	checkReader(t, r, 0, api.OK, api.OK)
}

// P3.2: bytes that are handed in are neither kept nor changed, their spare room neither.
func TestReaderKeepsNothing(t *testing.T) {
	b := []byte{7, 2, 97, 98, 1, 2, 3}
	r := NewReader(b[:4])
	checkReader(t, r, 4, api.OK, api.ErrForm)
	b[0], b[2] = 99, 99
	if n, s := r.Byte(), r.Text(9); n != 7 || s != "ab" {
		t.Errorf("read are %d, %q", n, s)
	}
	checkZero(t, uint64(r.Byte()), "")
	checkReader(t, r, 0, api.ErrEnd, api.ErrEnd)
	if !slices.Equal(b, []byte{99, 2, 99, 98, 1, 2, 3}) {
		t.Errorf("the bytes handed in became %v", b)
	}
}

// P3.2: readers of the same bytes have nothing in common.
func TestTwoReaders(t *testing.T) {
	b := []byte{1, 2}
	r, s := NewReader(b), NewReader(b)
	r.Byte()
	s.Word()
	if r.Byte() != 2 {
		t.Error("a reader was moved by another one")
	}
	checkReader(t, r, 0, api.OK, api.OK)
	checkReader(t, s, 2, api.ErrEnd, api.ErrEnd)
}

// P3.3: rows of fields that were written are read, as they were; a writer has just the room that they need.
func TestRoundTrip(t *testing.T) {
	some, w := fields(), uint64(1)
	for range 300 {
		var row []field
		var want []byte
		for range w >> 60 {
			w = w*6364136223846793005 + 1442695040888963407
			f := some[w>>33%uint64(len(some))]
			row, want = append(row, f), append(want, f.bytes()...)
		}
		w = w*6364136223846793005 + 1442695040888963407
		checkRow(t, row, want)
	}
	checkRow(t, nil, nil)
	for _, f := range some {
		checkRow(t, []field{f, f, f}, slices.Repeat(f.bytes(), 3))
	}
}

// checkRow writes a row of fields and reads it again.
func checkRow(t *testing.T, row []field, want []byte) {
	t.Helper()
	w := NewWriter(len(want))
	for _, f := range row {
		f.write(w)
	}
	checkWriter(t, w, want, api.OK)
	b, _ := w.Bytes()
	r, left := NewReader(b), len(want)
	for _, f := range row {
		if got := f.read(r); got != f {
			t.Errorf("%v is read as %v", f.brief(), got.brief())
		}
		if left -= len(f.bytes()); r.Left() != left {
			t.Errorf("%d bytes are left, not %d", r.Left(), left)
		}
	}
	checkReader(t, r, 0, api.OK, api.OK)
}

// P3.2, P3.3: nothing panics, whatever bytes are read, in whatever order of fields; the place never goes back, nor beyond the end.
func TestReadAnything(t *testing.T) {
	w := uint64(1)
	next := func(below int) int {
		w = w*6364136223846793005 + 1442695040888963407
		return int(w >> 33 % uint64(below))
	}
	for range 3000 {
		b := make([]byte, next(30))
		for i := range b {
			b[i] = []byte{0, 1, 2, 3, 127, 128, 129, 255}[next(8)]
		}
		r := NewReader(b)
		for range 8 {
			before, err := r.Left(), r.Err()
			f := field{kind(next(int(kinds))), []uint64{0, 1, 300, math.MaxUint64}[next(4)], strings.Repeat("a", next(4))}
			got := f.read(r)
			switch {
			case r.Err() != api.OK && (r.Left() != before || got != field{kind: f.kind} || r.Done() != r.Err()):
				t.Fatalf("%v: %v is read, %d left, ahead %d", b, got, r.Left(), before)
			case err != api.OK && r.Err() != err:
				t.Fatalf("%v: the error %d became %d", b, err, r.Err())
			case r.Err() == api.OK && !slices.Equal(got.bytes(), b[len(b)-before:len(b)-r.Left()]):
				t.Fatalf("%v: %v is read, %d left, ahead %d", b, got, r.Left(), before)
			}
		}
	}
}

// P3.3: a nil writer and a nil reader.
func TestNil(t *testing.T) {
	var w *Writer
	for _, got := range []*Writer{w.Byte(), w.Byte(1, 2), w.Short(5), w.Short(-1), w.Word(5), w.Number(5), w.Text("a"), w.Byte(1).Text("b").Short(2)} {
		if got != nil {
			t.Error("a nil writer tells another one")
		}
	}
	checkWriter(t, w, nil, api.ErrState)
	checkWriter(t, w.Text("a"), nil, api.ErrState)
	var r *Reader
	checkZero(t, uint64(r.Byte()), r.Text(9))
	checkZero(t, uint64(r.Short()), r.Text(-1))
	checkZero(t, r.Word(), "")
	checkZero(t, r.Number(math.MaxUint64), "")
	checkReader(t, r, 0, api.ErrState, api.ErrState)
}
