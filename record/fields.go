package record

import (
	"math"

	"vulgate/api"
	"vulgate/wire"
)

// The bounds of fields that no limit tells.
const (
	leastMask  = 1
	mostMask   = 63
	firstState = 1
	lastState  = 5
	leastRev   = 1
	mostRev    = math.MaxUint32
	mostAt     = math.MaxUint64
)

// gone is the byte of a source that is gone; 0 is that of one that isn't.
const gone = 1

// act is what is done with a field, by its sort: a small number within its bounds, whether a source is gone, a revision, a time, a text.
type act struct {
	small func(n *uint8, least, most uint8)
	gone  func(is *bool)
	rev   func(n *uint32)
	time  func(n *uint64)
	text  func(s *string)
}

// each does an act with each field that a record's kind uses, in the order of their bytes; it tells whether the kind is one.
func each(r *Rec, do act) bool {
	switch r.Kind {
	case Project:
		do.small(&r.User, 0, api.MaxUsers-1)
	case Grant:
		do.small(&r.Mask, leastMask, mostMask)
	case Locale:
	case Branch:
		do.small(&r.Parent, 0, api.MaxBranches-1)
		do.small(&r.State, Open, Closed)
		do.time(&r.At)
	case Source:
		do.gone(&r.Gone)
		do.rev(&r.Rev)
		do.text(&r.Text)
	case Trans:
		do.small(&r.State, firstState, lastState)
		do.small(&r.User, 0, api.MaxUsers-1)
		do.rev(&r.Rev)
		do.text(&r.Text)
	default:
		return false
	}
	return true
}

// weighing holds fields against their bounds, and takes them away. The first error is kept: a text comes behind all numbers, in the order of errors too.
func weighing(err *api.Errno) act {
	hold := func(within bool, wrong api.Errno) {
		if !within && *err == api.OK {
			*err = wrong
		}
	}
	return act{
		small: func(n *uint8, least, most uint8) {
			hold(*n >= least && *n <= most, api.ErrRange)
			*n = 0
		},
		gone: func(is *bool) { *is = false },
		rev: func(n *uint32) {
			hold(*n >= leastRev, api.ErrRange)
			*n = 0
		},
		time: func(n *uint64) { *n = 0 },
		text: func(s *string) {
			hold(len(*s) <= api.MaxText, api.ErrLong)
			*s = ""
		},
	}
}

// writing writes fields.
func writing(w *wire.Writer) act {
	return act{
		small: func(n *uint8, _, _ uint8) { w.Byte(*n) },
		gone: func(is *bool) {
			if *is {
				w.Byte(gone)
			} else {
				w.Byte(0)
			}
		},
		rev:  func(n *uint32) { w.Number(uint64(*n)) },
		time: func(n *uint64) { w.Number(*n) },
		text: func(s *string) { w.Text(*s) },
	}
}

// reading reads fields; late is the error that counts only when all of them are there.
func reading(in *wire.Reader, late *api.Errno) act {
	return act{
		small: func(n *uint8, _, _ uint8) { *n = in.Byte() },
		gone: func(is *bool) {
			b := in.Byte()
			if b > gone {
				*late = api.ErrRange
			}
			*is = b == gone
		},
		rev:  func(n *uint32) { *n = uint32(in.Number(mostRev)) },
		time: func(n *uint64) { *n = in.Number(mostAt) },
		text: func(s *string) { *s = in.Text(api.MaxText) },
	}
}
