package key

import (
	"bytes"
	"fmt"
	"math"
	"regexp"
	"slices"
	"strings"
	"testing"

	"vulgate/api"
	"vulgate/name"
	"vulgate/tag"
)

// rightKey is what a right key's bytes are by the chapter's words.
var rightKey = regexp.MustCompile(`(?s)\A(?:` + strings.Join([]string{
	`\x01[\x00-\x03]\x00\x00{12}\x00{10}`,
	`\x02[\x00-\x03][\x00-\x0f]\x00{12}\x00{10}`,
	`\x03[\x00-\x03]\x00\x00{12}` + tagBytes,
	`\x04[\x00-\x03][\x00-\x03]\x00{12}\x00{10}`,
	`\x05[\x00-\x03][\x00-\x03]` + nameBytes + `\x00{10}`,
	`\x06[\x00-\x03][\x00-\x03]` + nameBytes + tagBytes,
}, "|") + `)\z`)

// What right names, and right tags but root, are as bytes (of names their count is asked by themselves), and as texts.
const (
	nameBytes = `[a-z][a-z0-9_.-]{0,11}\x00{0,11}`
	tagBytes  = `(?:[a-z]{2}\x00|[a-z]{3})(?:\x00{4}|[A-Z][a-z]{3})(?:\x00{3}|[A-Z]{2}\x00|[0-9]{3})`
	nameText  = `[a-z][a-z0-9_.-]{0,11}`
	tagText   = `[a-z]{2,3}(?:-[A-Z][a-z]{3})?(?:-(?:[A-Z]{2}|[0-9]{3}))?`
)

// keyText is what a right key's text is by the chapter's words.
var keyText = regexp.MustCompile(`\A(?:` + strings.Join([]string{
	`p/[0-3]`,
	`g/[0-3]/(?:[0-9]|1[0-5])`,
	`l/[0-3]/` + tagText,
	`b/[0-3]/[0-3]`,
	`s/[0-3]/[0-3]/` + nameText,
	`t/[0-3]/[0-3]/` + nameText + `/` + tagText,
}, "|") + `)\z`)

// rawName is a name of this text, whatever it is.
func rawName(s string) name.Name {
	var n name.Name
	copy(n[:], s)
	return n
}

// rawTag is a tag of these parts, whatever they are.
func rawTag(lang, script, region string) tag.Tag {
	var t tag.Tag
	copy(t.Lang[:], lang)
	copy(t.Script[:], script)
	copy(t.Region[:], region)
	return t
}

// rawBytes are a key's bytes, whatever it is.
func rawBytes(k Key) [Size]byte {
	return [Size]byte(slices.Concat([]byte{k.Kind, k.Project, k.At}, k.Name[:], k.Tag.Lang[:], k.Tag.Script[:], k.Tag.Region[:]))
}

// rawKey is the key of these bytes, whatever they are.
func rawKey(b [Size]byte) Key {
	return Key{b[0], b[1], b[2], name.Name(b[3:15]), tag.Tag{Lang: [3]byte(b[15:18]), Script: [4]byte(b[18:22]), Region: [3]byte(b[22:25])}}
}

// isRight tells of a key whether it is right, by the chapter's words.
func isRight(k Key) bool {
	b := rawBytes(k)
	return rightKey.Match(b[:])
}

// modelText is what a key's text must be: by its letter, what it uses.
func modelText(k Key) string {
	if !isRight(k) {
		return ""
	}
	n, g := strings.TrimRight(string(k.Name[:]), "\x00"), k.Tag.Text()
	switch k.Kind {
	case 1:
		return fmt.Sprintf("p/%d", k.Project)
	case 2:
		return fmt.Sprintf("g/%d/%d", k.Project, k.At)
	case 3:
		return fmt.Sprintf("l/%d/%s", k.Project, g)
	case 4:
		return fmt.Sprintf("b/%d/%d", k.Project, k.At)
	case 5:
		return fmt.Sprintf("s/%d/%d/%s", k.Project, k.At, n)
	}
	return fmt.Sprintf("t/%d/%d/%s/%s", k.Project, k.At, n, g)
}

// modelOf is what the key of parts must be: the errors in their order, and what the kind uses by its letters.
func modelOf(kind, project, at int, n name.Name, g tag.Tag) (Key, api.Errno) {
	uses, ok := map[int]string{1: "", 2: "u", 3: "t", 4: "b", 5: "bn", 6: "bnt"}[kind]
	if !ok {
		return Key{}, api.ErrKind
	}
	k := Key{Kind: byte(kind), Project: byte(project)}
	most := 0
	if strings.Contains(uses, "u") {
		most = 15
	} else if strings.Contains(uses, "b") {
		most = 3
	} else {
		at = 0
	}
	if project < 0 || project > 3 || at < 0 || at > most {
		return Key{}, api.ErrRange
	}
	k.At = byte(at)
	if strings.Contains(uses, "n") {
		if !name.Right(n) {
			return Key{}, api.ErrName
		}
		k.Name = n
	}
	if strings.Contains(uses, "t") {
		if g == (tag.Tag{}) || !tag.Right(g) {
			return Key{}, api.ErrTag
		}
		k.Tag = g
	}
	return k, api.OK
}

// What stands in the keys of the tests: right names, and right tags but root.
var (
	rightNames = []name.Name{rawName("a"), rawName("a-"), rawName("aa"), rawName("hello"), rawName("hello.x_2-b"), rawName("zzzzzzzzzzzz")}
	rightTags  = []tag.Tag{rawTag("aa", "", ""), rawTag("de", "", ""), rawTag("de", "", "419"), rawTag("de", "", "AT"), rawTag("de", "Latn", ""), rawTag("deu", "", ""), rawTag("zh", "Hant", "TW"), rawTag("zzz", "Zzzz", "ZZ")}
	wrongNames = []name.Name{{}, rawName("A"), rawName("1a"), rawName("-"), rawName("a b"), rawName("a/b"), rawName("a\x00b"), rawName("\x00a"), rawName("a\xff"), rawName("aaaaaaaaaaaA"), {11: 'a'}}
	wrongTags  = []tag.Tag{rawTag("d", "", ""), rawTag("DE", "", ""), rawTag("de", "latn", ""), rawTag("de", "", "at"), rawTag("de", "", "1"), rawTag("", "Latn", ""), rawTag("", "", "AT"), rawTag("d\x00e", "", ""), rawTag("de", "", "\x00\x00A"), rawTag("\xff", "\xff", "\xff")}
)

// root is the zero tag: right, but no key's that uses one.
var root tag.Tag

// some are right keys of each kind, in order.
func some() []Key {
	var l []Key
	for kind := 1; kind <= 6; kind++ {
		for project := range 4 {
			switch kind {
			case 1:
				l = append(l, Key{Kind: 1, Project: byte(project)})
			case 2:
				for at := range 16 {
					l = append(l, Key{Kind: 2, Project: byte(project), At: byte(at)})
				}
			case 3:
				for _, g := range rightTags {
					l = append(l, Key{Kind: 3, Project: byte(project), Tag: g})
				}
			case 4:
				for at := range 4 {
					l = append(l, Key{Kind: 4, Project: byte(project), At: byte(at)})
				}
			case 5:
				for at := range 4 {
					for _, n := range rightNames {
						l = append(l, Key{Kind: 5, Project: byte(project), At: byte(at), Name: n})
					}
				}
			default:
				for at := range 4 {
					for _, n := range rightNames {
						for _, g := range rightTags {
							l = append(l, Key{6, byte(project), byte(at), n, g})
						}
					}
				}
			}
		}
	}
	return l
}

// six are one right key of each kind, with all that it uses unlike 0.
func six() [6]Key {
	n, g := rawName("hello"), rawTag("de", "", "AT")
	return [6]Key{{Kind: 1, Project: 2}, {Kind: 2, Project: 1, At: 15}, {Kind: 3, Project: 3, Tag: g}, {Kind: 4, Project: 1, At: 3}, {Kind: 5, Project: 2, At: 1, Name: n}, {6, 1, 2, n, g}}
}

// wrong are keys that aren't right: each part out of its bounds, or used by another kind.
func wrong() []Key {
	n, g := rawName("a"), rawTag("de", "", "")
	l := []Key{
		{}, {Kind: 0, Project: 1}, {0, 1, 2, n, g}, {Kind: 7}, {7, 1, 2, n, g}, {255, 1, 2, n, g}, {Kind: 'p'}, {Kind: 't', Name: n, Tag: g},
		{Kind: 1, Project: 4}, {Kind: 1, Project: 255}, {Kind: 1, At: 1}, {Kind: 1, Name: n}, {Kind: 1, Tag: g}, {1, 1, 1, n, g},
		{Kind: 2, Project: 4}, {Kind: 2, At: 16}, {Kind: 2, At: 255}, {Kind: 2, Name: n}, {Kind: 2, Tag: g},
		{Kind: 3}, {Kind: 3, Project: 4, Tag: g}, {Kind: 3, At: 1, Tag: g}, {Kind: 3, Name: n, Tag: g}, {Kind: 3, Name: n},
		{Kind: 4, Project: 4}, {Kind: 4, At: 4}, {Kind: 4, At: 15}, {Kind: 4, Name: n}, {Kind: 4, Tag: g},
		{Kind: 5}, {Kind: 5, Project: 4, Name: n}, {Kind: 5, At: 4, Name: n}, {Kind: 5, Name: n, Tag: g}, {Kind: 5, Tag: g},
		{Kind: 6}, {Kind: 6, Project: 4, Name: n, Tag: g}, {Kind: 6, At: 4, Name: n, Tag: g}, {Kind: 6, Name: n}, {Kind: 6, Tag: g},
	}
	for _, x := range wrongNames {
		l = append(l, Key{Kind: 5, Name: x}, Key{Kind: 6, Name: x, Tag: g})
		if x != (name.Name{}) {
			l = append(l, Key{Kind: 1, Name: x}, Key{Kind: 2, Name: x}, Key{Kind: 3, Name: x, Tag: g}, Key{Kind: 4, Name: x})
		}
	}
	for _, x := range wrongTags {
		l = append(l, Key{Kind: 3, Tag: x}, Key{Kind: 6, Name: n, Tag: x}, Key{Kind: 1, Tag: x}, Key{Kind: 2, Tag: x}, Key{Kind: 4, Tag: x}, Key{Kind: 5, Name: n, Tag: x})
	}
	return l
}

// random tells numbers that look like chance, the same in each run.
func random() func(below int) int {
	w := uint64(1)
	return func(below int) int {
		w = w*6364136223846793005 + 1442695040888963407
		return int(w >> 33 % uint64(below))
	}
}

// checkKey holds a key, and an error, against what they must be.
func checkKey(t *testing.T, what string, got Key, err api.Errno, want Key, wantErr api.Errno) {
	t.Helper()
	if got != want || err != wantErr {
		t.Errorf("%s is %q, %d, not %q, %d", what, rawBytes(got), err, rawBytes(want), wantErr)
	}
}

// P6.1: the key of parts, written out: each kind, what it leaves out, and its first error where several parts are wrong.
func TestOfWritten(t *testing.T) {
	n, g := rawName("hello"), rawTag("de", "", "AT")
	noName, noTag := rawName("A"), rawTag("DE", "", "")
	for _, x := range []struct {
		kind, project, at int
		n                 name.Name
		g                 tag.Tag
		want              Key
		err               api.Errno
	}{
		{1, 0, 0, n, g, Key{Kind: 1}, 0},
		{1, 3, 0, n, g, Key{Kind: 1, Project: 3}, 0},
		{1, 2, -1, noName, noTag, Key{Kind: 1, Project: 2}, 0},
		{1, 2, 1 << 40, name.Name{}, root, Key{Kind: 1, Project: 2}, 0},
		{1, 4, 0, n, g, Key{}, api.ErrRange},
		{1, -1, 0, n, g, Key{}, api.ErrRange},
		{1, 256, 0, n, g, Key{}, api.ErrRange},
		{1, -256, 0, n, g, Key{}, api.ErrRange},
		{2, 3, 0, n, g, Key{Kind: 2, Project: 3}, 0},
		{2, 0, 15, noName, noTag, Key{Kind: 2, At: 15}, 0},
		{2, 0, 16, n, g, Key{}, api.ErrRange},
		{2, 0, -1, n, g, Key{}, api.ErrRange},
		{2, 0, 256, n, g, Key{}, api.ErrRange},
		{2, 4, 0, n, g, Key{}, api.ErrRange},
		{3, 3, 0, n, g, Key{Kind: 3, Project: 3, Tag: g}, 0},
		{3, 0, 16, noName, g, Key{Kind: 3, Tag: g}, 0},
		{3, 0, -9, name.Name{}, g, Key{Kind: 3, Tag: g}, 0},
		{3, 0, 0, n, root, Key{}, api.ErrTag},
		{3, 0, 0, noName, noTag, Key{}, api.ErrTag},
		{3, 4, 0, n, root, Key{}, api.ErrRange},
		{4, 1, 0, n, g, Key{Kind: 4, Project: 1}, 0},
		{4, 1, 3, noName, noTag, Key{Kind: 4, Project: 1, At: 3}, 0},
		{4, 1, 4, n, g, Key{}, api.ErrRange},
		{4, 1, 15, n, g, Key{}, api.ErrRange},
		{4, 1, -1, n, g, Key{}, api.ErrRange},
		{5, 1, 3, n, g, Key{Kind: 5, Project: 1, At: 3, Name: n}, 0},
		{5, 1, 0, n, noTag, Key{Kind: 5, Project: 1, Name: n}, 0},
		{5, 1, 0, n, root, Key{Kind: 5, Project: 1, Name: n}, 0},
		{5, 1, 4, noName, noTag, Key{}, api.ErrRange},
		{5, 1, 0, noName, noTag, Key{}, api.ErrName},
		{5, 1, 0, name.Name{}, g, Key{}, api.ErrName},
		{6, 3, 3, n, g, Key{6, 3, 3, n, g}, 0},
		{6, 0, 0, n, g, Key{6, 0, 0, n, g}, 0},
		{6, 0, 0, n, root, Key{}, api.ErrTag},
		{6, 0, 0, n, noTag, Key{}, api.ErrTag},
		{6, 0, 0, noName, root, Key{}, api.ErrName},
		{6, 0, 4, noName, noTag, Key{}, api.ErrRange},
		{6, 4, 0, noName, noTag, Key{}, api.ErrRange},
		{0, 0, 0, n, g, Key{}, api.ErrKind},
		{7, 0, 0, n, g, Key{}, api.ErrKind},
		{0, 4, 99, noName, noTag, Key{}, api.ErrKind},
		{-1, 0, 0, n, g, Key{}, api.ErrKind},
		{257, 0, 0, n, g, Key{}, api.ErrKind},
		{262, 0, 0, n, g, Key{}, api.ErrKind},
		{'p', 0, 0, n, g, Key{}, api.ErrKind},
	} {
		got, err := Of(x.kind, x.project, x.at, x.n, x.g)
		checkKey(t, fmt.Sprint("Of ", x.kind, x.project, x.at), got, err, x.want, x.err)
	}
}

// P6.1: the key of parts: all kinds, numbers, names and tags, right and wrong ones, with one another.
func TestOf(t *testing.T) {
	kinds := []int{math.MinInt, -255, -1, 0, 1, 2, 3, 4, 5, 6, 7, 8, 256, 257, 258, 262, 1<<32 + 1, math.MaxInt}
	numbers := []int{math.MinInt, -256, -253, -1, 0, 1, 3, 4, 15, 16, 255, 256, 257, 1 << 32, math.MaxInt}
	names := slices.Concat(rightNames[2:5], wrongNames)
	tags := slices.Concat(rightTags[2:5], wrongTags, []tag.Tag{root})
	for _, kind := range kinds {
		for _, project := range numbers {
			for _, at := range numbers {
				for _, n := range names {
					for _, g := range tags {
						got, err := Of(kind, project, at, n, g)
						want, wantErr := modelOf(kind, project, at, n, g)
						if got != want || err != wantErr {
							t.Fatalf("Of(%d, %d, %d, %q, %q) is %q, %d, not %q, %d", kind, project, at, n, g, got, err, want, wantErr)
						}
					}
				}
			}
		}
	}
}

// checkBytes holds what is told of a key, and of its bytes, against what it must be.
func checkBytes(t *testing.T, k Key) {
	t.Helper()
	right := isRight(k)
	if Right(k) != right {
		t.Errorf("Right(%q) is %t", rawBytes(k), !right)
	}
	if k.Bytes() != rawBytes(k) {
		t.Errorf("Bytes is %q, not %q", k.Bytes(), rawBytes(k))
	}
	if k.Text() != modelText(k) {
		t.Errorf("of %q Text is %q, not %q", rawBytes(k), k.Text(), modelText(k))
	}
	want, wantErr := Key{}, api.ErrForm
	if right {
		want, wantErr = k, api.OK
	}
	got, err := Read(rawBytes(k))
	checkKey(t, fmt.Sprintf("Read(%q)", rawBytes(k)), got, err, want, wantErr)
}

// P6.1, P6.2: right keys, and all that differ from one of each kind in one byte, or from some of them in two.
func TestBytes(t *testing.T) {
	for _, k := range some() {
		if !isRight(k) {
			t.Errorf("%q isn't right", rawBytes(k))
		}
		checkBytes(t, k)
	}
	for _, k := range listOfSix() {
		for i := range Size {
			for c := range 256 {
				b := rawBytes(k)
				b[i] = byte(c)
				checkBytes(t, rawKey(b))
			}
		}
	}
	for _, k := range wrong() {
		if isRight(k) {
			t.Errorf("%q is right", rawBytes(k))
		}
		checkBytes(t, k)
	}
	next, l := random(), some()
	for range 20000 {
		b := rawBytes(l[next(len(l))])
		b[next(3)] = byte(next(20))
		b[3+next(22)] = "de\x00\x00Aa1-/\xff"[next(10)]
		checkBytes(t, rawKey(b))
	}
}

// listOfSix: the six as a list.
func listOfSix() []Key {
	l := six()
	return l[:]
}

// P6.1: bytes written out: each part where it stands, of keys that aren't right too.
func TestBytesWritten(t *testing.T) {
	for _, x := range []struct{ text, want string }{
		{"p/2", "\x01\x02\x00" + strings.Repeat("\x00", 22)},
		{"g/1/15", "\x02\x01\x0f" + strings.Repeat("\x00", 22)},
		{"l/3/de-AT", "\x03\x03\x00" + strings.Repeat("\x00", 12) + "de\x00\x00\x00\x00\x00AT\x00"},
		{"b/0/3", "\x04\x00\x03" + strings.Repeat("\x00", 22)},
		{"s/1/2/hello", "\x05\x01\x02hello" + strings.Repeat("\x00", 17)},
		{"t/0/1/a.b-c_123456/zh-Hant-TW", "\x06\x00\x01a.b-c_123456zh\x00HantTW\x00"},
	} {
		k, err := Parse(x.text)
		if got := k.Bytes(); err != api.OK || string(got[:]) != x.want {
			t.Errorf("of %s Bytes is %q, %d", x.text, got, err)
		}
		got, err := Read([Size]byte([]byte(x.want)))
		checkKey(t, "Read", got, err, k, api.OK)
	}
	k := Key{1, 2, 3, name.Name{4, 5, 6, 7, 8, 9, 10, 11, 12, 13, 14, 15}, tag.Tag{Lang: [3]byte{16, 17, 18}, Script: [4]byte{19, 20, 21, 22}, Region: [3]byte{23, 24, 25}}}
	for i, c := range k.Bytes() {
		if int(c) != i+1 {
			t.Errorf("byte %d is %d", i, c)
		}
	}
	got, err := Read(k.Bytes())
	checkKey(t, "Read of no key's", got, err, Key{}, api.ErrForm)
}

// P6.1: bytes that aren't read: one behind what the kind uses, or one of its own out of its bounds.
func TestReadWrong(t *testing.T) {
	for _, x := range []struct {
		text string
		at   int
		to   byte
	}{
		{"p/2", 0, 0}, {"p/2", 0, 7}, {"p/2", 1, 4}, {"p/2", 2, 1}, {"p/2", 3, 'a'}, {"p/2", 14, 'a'}, {"p/2", 15, 'd'}, {"p/2", 24, 1},
		{"g/1/15", 1, 4}, {"g/1/15", 2, 16}, {"g/1/15", 3, 'a'}, {"g/1/15", 15, 1}, {"g/1/15", 24, 1},
		{"l/0/de", 1, 4}, {"l/0/de", 2, 1}, {"l/0/de", 3, 'a'}, {"l/0/de", 14, 1}, {"l/0/de", 15, 0}, {"l/0/de", 15, 'D'}, {"l/0/de", 18, 'a'}, {"l/0/de", 24, 1},
		{"b/3/3", 1, 4}, {"b/3/3", 2, 4}, {"b/3/3", 3, 'a'}, {"b/3/3", 15, 'd'}, {"b/3/3", 24, 1},
		{"s/0/1/a", 1, 4}, {"s/0/1/a", 2, 4}, {"s/0/1/a", 3, 0}, {"s/0/1/a", 3, 'A'}, {"s/0/1/a", 5, 'b'}, {"s/0/1/a", 14, 'b'}, {"s/0/1/a", 15, 'd'}, {"s/0/1/a", 24, 1},
		{"t/0/1/a/de", 1, 4}, {"t/0/1/a/de", 2, 4}, {"t/0/1/a/de", 3, 0}, {"t/0/1/a/de", 4, '/'}, {"t/0/1/a/de", 14, 'b'}, {"t/0/1/a/de", 16, 0}, {"t/0/1/a/de", 17, '1'}, {"t/0/1/a/de", 24, 1},
		{"s/0/1/a", 0, 6}, {"s/0/1/a", 0, 4}, {"t/0/1/a/de", 0, 5}, {"l/0/de", 0, 6}, {"l/0/de", 0, 1}, {"g/0/4", 0, 4}, {"g/0/4", 0, 1},
	} {
		k, err := Parse(x.text)
		if err != api.OK {
			t.Errorf("%s isn't read", x.text)
		}
		b := k.Bytes()
		b[x.at] = x.to
		got, err := Read(b)
		checkKey(t, fmt.Sprintf("Read(%q)", b), got, err, Key{}, api.ErrForm)
		if bad := rawKey(b); Right(bad) || bad.Text() != "" || bad.Bytes() != b {
			t.Errorf("%q is right, or has a text, or other bytes", b)
		}
	}
}

// P6.2: texts written out, each kind's.
func TestTextWritten(t *testing.T) {
	n, g := rawName("hello"), rawTag("de", "", "AT")
	for _, x := range []struct {
		k    Key
		want string
	}{
		{Key{Kind: 1}, "p/0"}, {Key{Kind: 1, Project: 3}, "p/3"},
		{Key{Kind: 2, Project: 1}, "g/1/0"}, {Key{Kind: 2, Project: 1, At: 9}, "g/1/9"}, {Key{Kind: 2, Project: 1, At: 10}, "g/1/10"}, {Key{Kind: 2, Project: 1, At: 15}, "g/1/15"},
		{Key{Kind: 3, Project: 2, Tag: g}, "l/2/de-AT"}, {Key{Kind: 3, Tag: rawTag("zh", "Hant", "TW")}, "l/0/zh-Hant-TW"}, {Key{Kind: 3, Tag: rawTag("es", "", "419")}, "l/0/es-419"},
		{Key{Kind: 4, Project: 3, At: 3}, "b/3/3"}, {Key{Kind: 4}, "b/0/0"},
		{Key{Kind: 5, At: 1, Name: n}, "s/0/1/hello"}, {Key{Kind: 5, Project: 3, Name: rawName("a.b-c_123456")}, "s/3/0/a.b-c_123456"},
		{Key{6, 0, 1, n, g}, "t/0/1/hello/de-AT"}, {Key{6, 3, 2, rawName("p"), rawTag("roo", "", "")}, "t/3/2/p/roo"},
	} {
		if got := x.k.Text(); got != x.want {
			t.Errorf("of %q Text is %q, not %q", rawBytes(x.k), got, x.want)
		}
		got, err := Parse(x.want)
		checkKey(t, x.want, got, err, x.k, api.OK)
	}
}

// P6.2: texts that are no key's.
func TestParseWrong(t *testing.T) {
	for _, s := range []string{
		"", "/", "//", "p", "p/", "/p", "/2", "p/2/", "/p/2", "p//2", "p/4", "p/9", "p/02", "p/00", "p/10", "p/-1", "p/-0", "p/+1", "p/ 1", "p/1 ", "p/1\x00", "p/0x1", "p/1_", "p/1/2", "p/1/de", "p/a", "p/\u0661", "pp/1", "P/1", "x/1", "p1", "p\\1", "pg/1", "1/1", "p/18446744073709551617", "p/340282366920938463463374607431768211457", "p/256",
		"g/1", "g/1/", "g//1", "g/1/16", "g/1/015", "g/1/00", "g/1/-1", "g/1/+5", "g/1/20", "g/1/99", "g/4/0", "g/01/0", "g/1/1/1", "g/1/1/", "g/1/a", "g/1/256", "gl/1/1", "G/1/1",
		"l/1", "l/1/", "l/1/root", "l/1/DE", "l/1/De", "l/1/de-at", "l/1/de-LATN", "l/1/de-latn", "l/1/de-", "l/1/d", "l/1/de/", "l/1/de/AT", "l/1/0/de", "l/1/de-1996", "l/4/de", "l/01/de", "l//de", "l/de", "l/1/ROOT", "L/1/de",
		"b/1", "b/1/", "b/1/4", "b/4/1", "b/1/01", "b/1/00", "b/1/-1", "b/1/1/1", "b/1/a", "b/1/15", "B/1/1",
		"s/0/1", "s/0/1/", "s/0/4/a", "s/4/0/a", "s/0/-1/a", "s/0/1/A", "s/0/1/1a", "s/0/1/abcdefghijklm", "s/0/1/a/", "s/0/1/a/b", "s/0/1/a/de", "s/0/a", "s/0//a", "s//1/a", "s/0/01/a", "s/00/1/a", "s/0/1/a b", "s/0/1/-a", "S/0/1/a",
		"t/0/1/a", "t/0/1/a/", "t/0/1//de", "t/0/1/de", "t/0/1/a/root", "t/0/1/a/DE", "t/0/1/a/de-at", "t/0/1/a/de/x", "t/0/1/a/de/", "t/0/1/a/de/de", "t/0/1/A/de", "t/0/4/a/de", "t/4/0/a/de", "t/0/01/a/de", "t/00/1/a/de", "t//1/a/de", "t/0/a/de", "t/0/1/abcdefghijklm/de", "t/0/1/a/de-1996", "T/0/1/a/de", "x/0/1/a/de", "bst/0/1/a/de", "/0/1/a/de",
		strings.Repeat("/", 1<<16), "t/0/1/a/de" + strings.Repeat("/", 1<<16), strings.Repeat("p/2", 1<<12), "p/" + strings.Repeat("0", 1<<16), "p/" + strings.Repeat("9", 1<<16),
	} {
		got, err := Parse(s)
		checkKey(t, fmt.Sprintf("Parse(%.40q)", s), got, err, Key{}, api.ErrForm)
	}
}

// texts are those that the tests go through: right and wrong parts with one another, and each byte at each place of some.
func texts() []string {
	var l []string
	letters := []string{"p", "g", "l", "b", "s", "t", "x", "", "P", "st"}
	numbers := []string{"0", "3", "4", "01", "", "-1"}
	thirds := []string{"", "/", "/0", "/3", "/4", "/15", "/16", "/015", "/de", "/de-AT", "/de-at", "/root", "/hello"}
	fourths := []string{"", "/", "/a", "/hello.x-2_b", "/A", "/de-AT", "/1"}
	fifths := []string{"", "/", "/de", "/zh-Hant-TW", "/ZH", "/root", "/de/", "/de/de"}
	for _, a := range letters {
		for _, b := range numbers {
			for _, c := range thirds {
				for _, d := range fourths {
					for _, e := range fifths {
						l = append(l, a+"/"+b+c+d+e)
					}
				}
			}
		}
	}
	for _, s := range []string{"p/2", "g/1/15", "g/1/5", "l/0/de-AT", "b/3/3", "s/0/1/hello", "t/0/1/hello/de-AT", "t/3/3/abcdefghijkl/zh-Hant-419"} {
		for i := range s {
			for c := range 256 {
				b := []byte(s)
				b[i] = byte(c)
				l = append(l, string(b), s[:i]+string(b[i:i+1])+s[i:], s[:i]+s[i+1:], s+string(b[i:i+1]))
			}
		}
	}
	return l
}

// P6.2, P6.4: the texts that are a key's, and those that aren't; what is told is read as it was, and unlike keys tell unlike texts.
func TestParse(t *testing.T) {
	right := map[string]Key{}
	for _, s := range texts() {
		k, err := Parse(s)
		if keyText.MatchString(s) != (err == api.OK) {
			t.Errorf("Parse(%q) is %q, %d", s, rawBytes(k), err)
			continue
		}
		if err != api.OK {
			checkKey(t, s, k, err, Key{}, api.ErrForm)
			continue
		}
		if !isRight(k) || modelText(k) != s || k.Text() != s {
			t.Errorf("Parse(%q) is %q, whose text is %q", s, rawBytes(k), k.Text())
		}
		right[s] = k
	}
	if len(right) < 500 {
		t.Errorf("but %d texts were right", len(right))
	}
	told := map[Key]string{}
	for s, k := range right {
		if other, ok := told[k]; ok {
			t.Errorf("%q and %q have one key", s, other)
		}
		told[k] = s
	}
}

// P6.4: unlike right keys have unlike texts, which are read as they were; so are their bytes.
func TestTextFollows(t *testing.T) {
	told := map[string]Key{}
	for _, k := range some() {
		s := k.Text()
		if other, ok := told[s]; ok {
			t.Errorf("%q and %q have both the text %q", rawBytes(k), rawBytes(other), s)
		}
		told[s] = k
		got, err := Parse(s)
		checkKey(t, s, got, err, k, api.OK)
		got, err = Read(k.Bytes())
		checkKey(t, s, got, err, k, api.OK)
	}
}

// P6.2: keys come in the order of their bytes, right or not; none comes ahead of itself.
func TestLess(t *testing.T) {
	l := some()
	for i, a := range l {
		for j := i % 7; j < len(l); j += 7 { // each with a seventh of the others, and with its neighbours
			if Less(a, l[j]) != (i < j) {
				t.Errorf("Less(%q, %q) is %t", a.Text(), l[j].Text(), i >= j)
			}
		}
		if Less(a, a) || i > 0 && (!Less(l[i-1], a) || Less(a, l[i-1])) {
			t.Errorf("Less isn't in order at %q", a.Text())
		}
	}
	next := random()
	for range 20000 {
		var a [Size]byte
		for i := range a {
			a[i] = byte(next(256))
		}
		b := a
		b[next(Size)] = byte(next(256))
		b[next(Size)] = byte(next(256))
		if got := Less(rawKey(a), rawKey(b)); got != (bytes.Compare(a[:], b[:]) < 0) {
			t.Errorf("Less(%q, %q) is %t", a, b, got)
		}
	}
}

// P6.2: the order, written out: kind, project, At, name, tag.
func TestLessWritten(t *testing.T) {
	l := []string{"p/0", "p/3", "g/0/2", "g/0/10", "g/1/0", "l/0/de", "l/0/de-AT", "l/0/deu", "l/1/aa", "b/0/0", "b/3/3", "s/0/0/b", "s/0/1/a", "s/0/1/a-", "s/0/1/aa", "s/1/0/a", "t/0/0/a/fr", "t/0/0/b/de", "t/0/0/b/de-AT", "t/0/0/b/de-Latn", "t/0/1/a/de", "t/1/0/a/de"}
	for i := range l {
		for j := range l {
			a, errA := Parse(l[i])
			b, errB := Parse(l[j])
			if Less(a, b) != (i < j) || errA != api.OK || errB != api.OK {
				t.Errorf("Less(%s, %s) is %t", l[i], l[j], Less(a, b))
			}
		}
	}
	a, b := Key{At: 1}, Key{Project: 1}
	if !Less(a, b) || Less(b, a) || !Less(Key{}, Key{Tag: rawTag("", "", "\x00\x00\x01")}) || Less(Key{Kind: 255}, Key{Kind: 1}) {
		t.Error("of keys that aren't right")
	}
}

// sizes are how many bytes a prefix of a depth has.
var sizes = [6]int{0, 1, 2, 3, 15, 25}

// checkPrefix holds what is told of a prefix and a key against their bytes.
func checkPrefix(t *testing.T, p Prefix, k Key) {
	t.Helper()
	var beginning []byte
	is := false
	if p.Depth >= 0 && p.Depth <= 5 {
		of, b := rawBytes(p.Key), rawBytes(k)
		beginning = of[:sizes[p.Depth]]
		is = bytes.HasPrefix(b[:], beginning)
	}
	if !bytes.Equal(p.Bytes(), beginning) {
		t.Errorf("of %q, %d Bytes is %q", rawBytes(p.Key), p.Depth, p.Bytes())
	}
	if p.Has(k) != is {
		t.Errorf("of %q, %d Has(%q) is %t", rawBytes(p.Key), p.Depth, rawBytes(k), !is)
	}
}

// P6.3: prefixes of each depth, with a key that differs in the last part that counts, and in the first one that doesn't.
func TestHasWritten(t *testing.T) {
	n, g := rawName("hello"), rawTag("de", "", "AT")
	k := Key{6, 1, 2, n, g}
	unlike := [5]Key{{5, 1, 2, n, g}, {6, 2, 2, n, g}, {6, 1, 3, n, g}, {6, 1, 2, rawName("hellp"), g}, {6, 1, 2, n, rawTag("de", "", "AU")}}
	for depth := range 6 {
		p := Prefix{k, depth}
		for part, other := range unlike {
			if p.Has(other) != (part >= depth) {
				t.Errorf("of depth %d Has is %t of a key whose part %d differs", depth, p.Has(other), part)
			}
			checkPrefix(t, p, other)
			checkPrefix(t, Prefix{other, depth}, k)
		}
		if !p.Has(k) {
			t.Errorf("of depth %d Has is false of its own key", depth)
		}
	}
	for depth, want := range []string{"", "\x06", "\x06\x01", "\x06\x01\x02", "\x06\x01\x02hello\x00\x00\x00\x00\x00\x00\x00", "\x06\x01\x02hello\x00\x00\x00\x00\x00\x00\x00de\x00\x00\x00\x00\x00AT\x00"} {
		if got := (Prefix{k, depth}).Bytes(); string(got) != want {
			t.Errorf("of depth %d Bytes is %q", depth, got)
		}
	}
	for _, depth := range []int{-1, 6, 7, 256, 258, math.MinInt, math.MaxInt} {
		if p := (Prefix{k, depth}); p.Has(k) || p.Has(Key{}) || (Prefix{Depth: depth}).Has(Key{}) || len(p.Bytes()) > 0 {
			t.Errorf("depth %d is one", depth)
		}
	}
	if !(Prefix{}).Has(k) || !(Prefix{k, 0}).Has(Key{}) || !(Prefix{Key{Kind: 6}, 1}).Has(k) || !(Prefix{Key{6, 1, 2, n, root}, 4}).Has(k) || (Prefix{Key{6, 1, 2, n, root}, 5}).Has(k) {
		t.Error("other parts of a prefix's key matter")
	}
}

// P6.3, P6.4: a key is of a prefix just if its bytes begin with the prefix's: right and wrong ones, that differ in each byte.
func TestHas(t *testing.T) {
	for _, k := range slices.Concat(listOfSix(), wrong()) {
		for depth := -2; depth <= 8; depth++ {
			checkPrefix(t, Prefix{k, depth}, k)
			checkPrefix(t, Prefix{k, depth}, Key{})
			checkPrefix(t, Prefix{Key{}, depth}, k)
			for i := range Size {
				b := rawBytes(k)
				b[i] ^= 1 << (i % 8)
				checkPrefix(t, Prefix{k, depth}, rawKey(b))
				checkPrefix(t, Prefix{rawKey(b), depth}, k)
			}
		}
	}
	l := some()
	for i := range l {
		for j := i % 31; j < len(l); j += 31 {
			for depth := -1; depth <= 6; depth++ {
				checkPrefix(t, Prefix{l[i], depth}, l[j])
			}
		}
	}
}

// checkSplit holds lists of keys by their prefixes against what they must be.
func checkSplit(t *testing.T, got, want map[Prefix][]Key) {
	t.Helper()
	if len(got) != len(want) {
		t.Errorf("%d prefixes, not %d", len(got), len(want))
	}
	for p, l := range want {
		if !slices.Equal(got[p], l) {
			t.Errorf("of %q: %q, not %q", p.Bytes(), got[p], l)
		}
	}
}

// P6.3: splits of none, of keys of one prefix, of several, with wrong keys among them, and a key that stands there twice.
func TestSplitWritten(t *testing.T) {
	of := func(s string) Key {
		k, err := Parse(s)
		if err != api.OK {
			t.Errorf("%s isn't read", s)
		}
		return k
	}
	three := func(kind, project, at uint8) Prefix {
		return Prefix{Key{Kind: kind, Project: project, At: at}, 3}
	}
	x, y, z, s, l := of("t/1/2/b/fr"), of("t/1/2/a/de"), of("t/1/3/a/de"), of("s/1/2/a"), of("l/1/de")
	for _, c := range []struct {
		l    []Key
		want map[Prefix][]Key
	}{
		{nil, nil},
		{[]Key{}, nil},
		{wrong(), nil},
		{[]Key{x}, map[Prefix][]Key{three(6, 1, 2): {x}}},
		{[]Key{x, y}, map[Prefix][]Key{three(6, 1, 2): {x, y}}},
		{[]Key{y, x, y, x}, map[Prefix][]Key{three(6, 1, 2): {y, x, y, x}}},
		{[]Key{x, s, y, z, l, x}, map[Prefix][]Key{three(6, 1, 2): {x, y, x}, three(6, 1, 3): {z}, three(5, 1, 2): {s}, three(3, 1, 0): {l}}},
		{[]Key{{}, x, {Kind: 7, Project: 1, At: 2}, s, {6, 1, 2, rawName("a"), root}, {6, 1, 2, rawName("A"), rawTag("de", "", "")}, x}, map[Prefix][]Key{three(6, 1, 2): {x, x}, three(5, 1, 2): {s}}},
		{[]Key{of("p/0"), of("p/1"), of("g/0/0"), of("b/0/0"), of("p/0"), of("g/0/15")}, map[Prefix][]Key{three(1, 0, 0): {of("p/0"), of("p/0")}, three(1, 1, 0): {of("p/1")}, three(2, 0, 0): {of("g/0/0")}, three(4, 0, 0): {of("b/0/0")}, three(2, 0, 15): {of("g/0/15")}}},
	} {
		handed := slices.Clone(c.l)
		checkSplit(t, Split(handed...), c.want)
		if !slices.Equal(handed, c.l) {
			t.Error("what was handed in is changed")
		}
	}
}

// P6.3: splits of any keys: each right one stands in the list of its prefix, as they came.
func TestSplit(t *testing.T) {
	next, all := random(), slices.Concat(some(), wrong(), wrong())
	for range 300 {
		l, want := make([]Key, next(60)), map[Prefix][]Key{}
		for i := range l {
			l[i] = all[next(len(all))]
			if isRight(l[i]) {
				p := Prefix{Key{Kind: l[i].Kind, Project: l[i].Project, At: l[i].At}, 3}
				want[p] = append(want[p], l[i])
			}
		}
		got := Split(l...)
		checkSplit(t, got, want)
		for p, of := range got {
			for _, k := range of {
				if !p.Has(k) {
					t.Errorf("%q isn't of %q", k.Text(), p.Bytes())
				}
			}
		}
	}
}

// P6.3: answers are new memory, and share none with one another, or with what was handed in.
func TestNewMemory(t *testing.T) {
	x, y, s := Key{6, 1, 2, rawName("a"), rawTag("de", "", "")}, Key{6, 1, 2, rawName("b"), rawTag("de", "", "")}, Key{Kind: 5, Name: rawName("a")}
	handed := []Key{x, s, y}
	first, second := Split(handed...), Split(handed...)
	p, q := Prefix{Key{Kind: 6, Project: 1, At: 2}, 3}, Prefix{Key{Kind: 5}, 3}
	want := map[Prefix][]Key{p: {x, y}, q: {s}}
	_ = append(first[q], x, x)
	_ = append(first[p][:1], s, s)
	first[p][0], first[q][0] = Key{}, Key{}
	delete(first, q)
	checkSplit(t, second, want)
	checkSplit(t, Split(handed...), want)
	if !slices.Equal(handed, []Key{x, s, y}) {
		t.Error("what was handed in is changed")
	}
	of := Prefix{x, 4}
	b, c := of.Bytes(), of.Bytes()
	b[0] = 9
	_ = append(b[:1], 9)
	if c[0] != 6 || c[1] != 1 || !bytes.Equal(of.Bytes(), c) || of.Key != x {
		t.Error("bytes of a prefix are shared")
	}
}

// P6.1, P6.2, P6.3: keys that aren't right, handed to each function.
func TestWrong(t *testing.T) {
	for _, k := range wrong() {
		if Right(k) || k.Text() != "" || len(Split(k, k)) > 0 || Less(k, k) || k.Bytes() != rawBytes(k) {
			t.Errorf("%q", rawBytes(k))
		}
		got, err := Read(k.Bytes())
		checkKey(t, "Read", got, err, Key{}, api.ErrForm)
		got, err = Parse(k.Text())
		checkKey(t, "Parse", got, err, Key{}, api.ErrForm)
		want, wantErr := modelOf(int(k.Kind), int(k.Project), int(k.At), k.Name, k.Tag)
		got, err = Of(int(k.Kind), int(k.Project), int(k.At), k.Name, k.Tag)
		checkKey(t, "Of", got, err, want, wantErr)
		if err == api.OK && got == k {
			t.Errorf("%q is told", rawBytes(k))
		}
	}
}

// The constants: the kinds, and how many bytes a key has.
func TestConstants(t *testing.T) {
	if [7]int{Project, Grant, Locale, Branch, Source, Trans, Size} != [7]int{1, 2, 3, 4, 5, 6, 25} {
		t.Error("constants")
	}
}

// P2: the same calls in the same order have the same answers.
func TestSameAnswers(t *testing.T) {
	l := some()
	want := Split(l...)
	for range 20 {
		checkSplit(t, Split(l...), want)
		for _, k := range listOfSix() {
			got, err := Parse(k.Text())
			checkKey(t, "Parse", got, err, k, api.OK)
		}
	}
}
