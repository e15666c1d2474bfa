package record

import (
	"math"
	"slices"
	"testing"

	"vulgate/api"
)

// P10.1: records' bytes, written out.
func TestBytes(t *testing.T) {
	for _, x := range []struct {
		r    Rec
		want string
	}{
		{Rec{Kind: Project}, "\x01\x00"}, {Rec{Kind: Project, User: 15}, "\x01\x0f"}, {Rec{Kind: Grant, Mask: 1}, "\x02\x01"}, {Rec{Kind: Grant, Mask: 63}, "\x02\x3f"}, {Rec{Kind: Locale}, "\x03"},
		{Rec{Kind: Branch}, "\x04\x00\x00\x00"}, {Rec{Kind: Branch, Parent: 3, State: Closed, At: 300}, "\x04\x03\x01\xac\x02"}, {Rec{Kind: Branch, Parent: 1, At: math.MaxUint64}, "\x04\x01\x00\xff\xff\xff\xff\xff\xff\xff\xff\xff\x01"},
		{Rec{Kind: Source, Rev: 1}, "\x05\x00\x01\x00"}, {Rec{Kind: Source, Rev: 1, Text: "ab"}, "\x05\x00\x01\x02ab"}, {Rec{Kind: Source, Gone: true, Rev: 2}, "\x05\x01\x02\x00"}, {Rec{Kind: Source, Rev: math.MaxUint32, Text: long(60)}, "\x05\x00\xff\xff\xff\xff\x0f\x3c" + long(60)},
		{Rec{Kind: Trans, State: 3, User: 2, Rev: 300, Text: "Hallo"}, "\x06\x03\x02\xac\x02\x05Hallo"}, {Rec{Kind: Trans, State: 1, Rev: 1}, "\x06\x01\x00\x01\x00"}, {Rec{Kind: Trans, State: 5, User: 15, Rev: 128, Text: "\x00\xff"}, "\x06\x05\x0f\x80\x01\x02\x00\xff"},
	} {
		checkBytes(t, []Rec{x.r}, []byte(x.want), api.OK)
		checkRead(t, []byte(x.want), x.r, len(x.want), api.OK)
	}
}

// P10.1: no records, one, several, and the same several times.
func TestBytesSeveral(t *testing.T) {
	checkBytes(t, nil, nil, api.OK)
	checkBytes(t, []Rec{}, nil, api.OK)
	checkBytes(t, []Rec{{Kind: Locale}, {Kind: Project, User: 2}, {Kind: Locale}}, []byte("\x03\x01\x02\x03"), api.OK)
	checkBytes(t, slices.Repeat([]Rec{{Kind: Grant, Mask: 7}}, 3), []byte("\x02\x07\x02\x07\x02\x07"), api.OK)
	for _, a := range oneEach() {
		for _, b := range oneEach() {
			checkBytes(t, []Rec{a, b}, append(modelBytes(a), modelBytes(b)...), api.OK)
		}
	}
	checkBytes(t, slices.Repeat([]Rec{{Kind: Source, Rev: 1, Text: long(60)}}, 5000), slices.Repeat([]byte("\x05\x00\x01\x3c"+long(60)), 5000), api.OK)
}

// P10.1: the error of the first one that has one, and no bytes, wherever it stands among right ones and wrong ones.
func TestBytesErrors(t *testing.T) {
	for _, wrong := range wrongOnes() {
		err := modelCheck(wrong)
		if err == api.OK {
			t.Fatalf("%#v is right", wrong)
		}
		for at := range len(oneEach()) + 1 {
			checkBytes(t, slices.Insert(oneEach(), at, wrong), nil, err)
		}
		for _, other := range wrongOnes() {
			checkBytes(t, []Rec{wrong, other}, nil, err)
			checkBytes(t, []Rec{{Kind: Locale}, wrong, {Kind: Locale}, other}, nil, err)
		}
	}
}

// P2, P10.1: the same bytes again, of new memory.
func TestBytesAgain(t *testing.T) {
	first, _ := Bytes(oneEach()...)
	was := slices.Clone(first)
	for range 5 {
		again, err := Bytes(oneEach()...)
		if !slices.Equal(again, was) || err != api.OK {
			t.Fatalf("%x, %d, not %x", again, err, was)
		}
		clear(first)
		clear(again[:cap(again)])
		first = again
	}
}
