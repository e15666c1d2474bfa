package chain

import (
	"slices"
	"testing"
)

// some are versions made by chance, most of which can be put behind a time.
func (c *chance) some(newest uint64) []Version {
	var l []Version
	for range c.below(4) {
		newest += uint64(c.below(4))
		v := live(newest)
		switch c.below(12) {
		case 0, 1, 2, 3:
			v = dead(newest)
		case 4:
			v.Dead = true
		case 5:
			v.Rec = wrongs()[c.below(len(wrongs()))].r
		case 6:
			v.Rec = rights()[c.below(len(rights()))]
		case 7:
			v.At = uint64(c.below(int(newest) + 1))
		}
		l = append(l, v)
	}
	return l
}

// pins are times made by chance, up to somewhat behind a time.
func (c *chance) pins(newest uint64) []uint64 {
	var l []uint64
	for range c.below(6) {
		l = append(l, uint64(c.below(int(newest)+4)))
	}
	return l
}

// P12.1, P12.2, P12.3: rows of Put and Trim made by chance, against what the chain must hold.
func TestRows(t *testing.T) {
	var c chance
	puts, refused, gone, emptied := 0, 0, 0, 0
	for range 2000 {
		var x Chain
		var m plain
		for range 30 {
			if c.below(3) > 0 {
				l, was := c.some(m.newest()), len(m)
				put(t, &x, &m, l...)
				puts += len(m) - was
				refused += was + len(l) - len(m)
			} else {
				pins := c.pins(m.newest())
				ahead, _ := holding(t, m...)
				was := len(m)
				trim(t, &x, &m, pins...)
				gone += was - len(m)
				if was > 0 && len(m) == 0 {
					emptied++
				}
				checkFollows(t, ahead, &x, pins, m.newest()+6)
			}
			checkChain(t, &x, m)
		}
	}
	if puts < 20000 || refused < 10000 || gone < 10000 || emptied < 500 {
		t.Errorf("%d put, %d refused, %d gone, %d times none left", puts, refused, gone, emptied)
	}
}

// P12.3: a chain that is trimmed again and again while it grows shows at each pin that stays, and at the last time, what an untrimmed one shows.
func TestRowsPinned(t *testing.T) {
	var c chance
	for range 300 {
		var trimmed, whole Chain
		var pins []uint64
		for last := uint64(1); last <= 60; last++ {
			if c.below(5) < 3 {
				v := live(last)
				if c.below(3) == 0 {
					v = dead(last)
				}
				trimmed.Put(v)
				whole.Put(v)
			}
			if c.below(4) == 0 {
				pins = append(pins, last)
			}
			pins = slices.DeleteFunc(pins, func(uint64) bool { return c.below(20) == 0 })
			trimmed.Trim(pins...)
			for _, time := range append(slices.Clone(pins), last) {
				want, there := whole.At(time)
				if r, is := trimmed.At(time); r != want || is != there || trimmed.Len() > len(pins)+1 {
					t.Errorf("of %s at %d, pinned at %d: %+v, %d versions", text(whole.List()), time, pins, r, trimmed.Len())
				}
			}
		}
	}
}
