package skeleton

import (
	"fmt"
	"math"
	"strings"
	"testing"

	"vulgate/api"
	"vulgate/name"
	"vulgate/tag"
)

// The great numbers' edge.
const greatest = uint64(math.MaxUint64)

// raw is a name of this text, whatever it is.
func raw(s string) name.Name {
	var n name.Name
	copy(n[:], s)
	return n
}

// text is a part.
func text(s string) Node { return Node{Kind: Text, Text: s} }

// arg is a value's part.
func arg(n string) Node { return Node{Kind: Arg, Name: raw(n)} }

// number is a number's part.
func number(n string) Node { return Node{Kind: Number, Name: raw(n)} }

// many is a plural.
func many(n string, cases ...Case) Node { return Node{Kind: Plural, Name: raw(n), Cases: cases} }

// which is a select.
func which(n string, cases ...Case) Node { return Node{Kind: Select, Name: raw(n), Cases: cases} }

// sign is a part.
func sign() Node { return Node{Kind: Sign} }

// when is a case.
func when(word string, kids ...Node) Case { return Case{Word: word, Kids: kids} }

// parts is a list.
func parts(l ...Node) []Node { return l }

// show tells all of a list: unlike ones, but for nil and empty, are told unlike.
func show(l []Node) string {
	var b strings.Builder
	for _, n := range l {
		fmt.Fprintf(&b, "(%d %q %q", n.Kind, n.Text, n.Name[:])
		for _, c := range n.Cases {
			fmt.Fprintf(&b, " %q[%s]", c.Word, show(c.Kids))
		}
		b.WriteString(")")
	}
	return b.String()
}

// written is the canonical text that parts must have, by the chapter's words.
func written(l []Node) string {
	s := ""
	for _, n := range l {
		from, _, _ := strings.Cut(string(n.Name[:]), "\x00")
		var cases []string
		for _, c := range n.Cases {
			cases = append(cases, fmt.Sprintf("%s{%s}", c.Word, written(c.Kids)))
		}
		switch n.Kind {
		case 0:
			s += n.Text
		case 1:
			s += fmt.Sprintf("{%s}", from)
		case 2:
			s += fmt.Sprintf("{%s, number}", from)
		case 3:
			s += fmt.Sprintf("{%s, plural, %s}", from, strings.Join(cases, " "))
		case 4:
			s += fmt.Sprintf("{%s, select, %s}", from, strings.Join(cases, " "))
		case 5:
			s += "#"
		}
	}
	return s
}

// parse is a text's parts, which must be some.
func parse(t *testing.T, s string) []Node {
	t.Helper()
	l, at, err := Parse(s)
	if at != 0 || err != api.OK {
		t.Fatalf("Parse(%q): %d at %d", s, err, at)
	}
	return l
}

// parseTag is the tag of a text, which must be one.
func parseTag(t *testing.T, s string) tag.Tag {
	t.Helper()
	x, err := tag.Parse(s)
	if err != api.OK {
		t.Fatalf("%q is no tag", s)
	}
	return x
}

// chance is a row of numbers, the same ones each time.
type chance uint64

// below is the next number below most.
func (c *chance) below(most int) int {
	*c = *c*6364136223846793005 + 1442695040888963407
	return int(uint64(*c) >> 33 % uint64(most))
}

// pick is one of some texts.
func (c *chance) pick(l ...string) string {
	return l[c.below(len(l))]
}

// someNames are names of 1 to 12 bytes, of all kinds of bytes, some of them words.
func someNames() []string {
	return []string{"n", "w", "a1", "a-b", "a.b_c", "z9-_.", "number", "plural", "select", "other", "one", "abcdefghijkl", "a-----------", "a00000000000"}
}

// some makes a row of parts of which a text could tell, within so many choices.
func (c *chance) some(deep int, inPlural bool) []Node {
	var l []Node
	for range c.below(4) {
		n := c.pick(someNames()...)
		switch kind := c.below(6); {
		case kind == Text && (len(l) == 0 || l[len(l)-1].Kind != Text):
			s := c.pick("a", " ", "a b", ",", "é", "\xff\x80~", "other", "n, plural", "#x")
			if inPlural {
				s = strings.TrimPrefix(s, "#")
			}
			l = append(l, text(s))
		case kind == Arg:
			l = append(l, arg(n))
		case kind == Number:
			l = append(l, number(n))
		case kind == Plural && deep < 3:
			l = append(l, many(n, c.someCases(deep, true, "zero", "one", "two", "few", "many")...))
		case kind == Select && deep < 3:
			l = append(l, which(n, c.someCases(deep, inPlural, someNames()...)...))
		case kind == Sign && inPlural:
			l = append(l, sign())
		}
	}
	return l
}

// someCases makes a choice's cases, of some words, with other among them.
func (c *chance) someCases(deep int, inPlural bool, words ...string) []Case {
	var l []Case
	held := map[string]bool{"other": true}
	for range c.below(3) {
		if word := c.pick(words...); !held[word] {
			held[word] = true
			l = append(l, when(word, c.some(deep+1, inPlural)...))
		}
	}
	at := c.below(len(l) + 1)
	return append(l[:at:at], append([]Case{when("other", c.some(deep+1, inPlural)...)}, l[at:]...)...)
}

// The constants, which later layers name.
func TestConstants(t *testing.T) {
	if got := [...]int{Text, Arg, Number, Plural, Select, Sign, MaxDeep}; got != [...]int{0, 1, 2, 3, 4, 5, 3} {
		t.Error(got)
	}
}

// P1: each function ends, and none panics, of lists that stand within themselves.
func TestWithinItself(t *testing.T) {
	for kind := range 6 {
		for words := range 3 {
			l, m := make([]Node, 2), make([]Node, 2)
			for _, x := range [][]Node{l, m} {
				var cases []Case
				for _, word := range []string{"one", "other"}[:words] {
					cases = append(cases, when(word, x...), Case{Word: word, Kids: x})
				}
				x[0], x[1] = Node{Kind: kind, Name: raw("n"), Cases: cases}, sign()
			}
			if !Same(l, l) || !Same(l, m) || words > 0 && (Same(l, l[:1]) || Same(l[:1], m)) {
				t.Errorf("kind %d, %d words: Same", kind, words)
			}
			if words > 0 {
				m[0].Cases[1].Word = "two"
				if Same(l, m) || Same(m, l) || !Same(m, m) {
					t.Errorf("kind %d, %d words: Same of unlike ones", kind, words)
				}
			}
			s, err := Print(l)
			r, e := Render(l, tag.Tag{}, Value{Name: raw("n")})
			if s != "" || r != "" || err != api.ErrForm || e != api.ErrForm || len(Uses(l)) != 0 {
				t.Errorf("kind %d, %d words: %q, %d, %q, %d, %v", kind, words, s, err, r, e, Uses(l))
			}
		}
	}
}

// P1: each function ends, and none panics, of very deep lists, and of very long ones.
func TestGreat(t *testing.T) {
	deep := func() []Node {
		l := parts(arg("n"))
		for i := range 1 << 18 {
			l = parts(Node{Kind: Plural + i%2, Name: raw("n"), Cases: []Case{when("other", l...)}})
		}
		return l
	}
	long := make([]Node, 1<<18)
	for i := range long {
		long[i] = which("n", when("a"), when("other", arg("m")))
	}
	other := append([]Node{}, long...)
	other[len(other)-1] = arg("m")
	l := deep()
	if !Same(l, deep()) || !Same(long, long) || Same(long, other) || Same(l, l[0].Cases[0].Kids) {
		t.Error("Same")
	}
	for _, x := range []struct {
		l    []Node
		want api.Errno
	}{{l, api.ErrForm}, {long, api.ErrLong}, {append(long, sign()), api.ErrForm}} {
		if s, err := Print(x.l); s != "" || err != x.want || len(Uses(x.l)) != 0 {
			t.Errorf("Print: %.20q, %d, not %d", s, err, x.want)
		}
		if s, err := Render(x.l, tag.Tag{}); s != "" || err != x.want {
			t.Errorf("Render: %.20q, %d, not %d", s, err, x.want)
		}
	}
}

// P2: the same calls in the same order have the same answers.
func TestSameAnswers(t *testing.T) {
	const s = "{b, select, x{{a}} y{{c, number}} other{}}{a, select, z{} other{}}"
	l := parts(which("b", when("x", arg("a")), when("y", number("c")), when("other")), which("a", when("z"), when("other")))
	short := parse(t, "{b,select,x{{a}}y{{c}}other{}}{a,select,other{}}")
	for range 200 {
		if got, at, err := Parse(s); len(got) != 0 || at != 0 || err != api.ErrLong {
			t.Errorf("Parse: %d at %d", err, at)
		}
		if got, err := Print(l); got != "" || err != api.ErrLong {
			t.Errorf("Print: %q, %d", got, err)
		}
		if got, want := fmt.Sprint(Uses(short)), fmt.Sprint([]Use{{raw("a"), 5, "other"}, {raw("b"), 4, "other,x,y"}, {raw("c"), 1, ""}}); got != want {
			t.Errorf("Uses: %s, not %s", got, want)
		}
		if got, err := Render(short, tag.Tag{}, Value{Name: raw("b"), Text: "y"}, Value{Name: raw("c"), N: 7}, Value{Name: raw("a")}); got != "7" || err != api.OK {
			t.Errorf("Render: %q, %d", got, err)
		}
	}
}
