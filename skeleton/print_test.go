package skeleton

import (
	"math"
	"slices"
	"strings"
	"testing"

	"vulgate/api"
	"vulgate/name"
	"vulgate/tag"
)

// checkPrint holds the text of parts against what it must be, and those handed in against what they were.
func checkPrint(t *testing.T, l []Node, want string, wantErr api.Errno) {
	t.Helper()
	was := show(l)
	if s, err := Print(l); s != want || err != wantErr {
		t.Errorf("Print(%s) is %q, %d, not %q, %d", was, s, err, want, wantErr)
	}
	if show(l) != was {
		t.Errorf("Print(%s) made of it %s", was, show(l))
	}
}

// checkRefused holds what each function tells of parts that Print refuses, against what it must.
func checkRefused(t *testing.T, l []Node, want api.Errno) {
	t.Helper()
	checkPrint(t, l, "", want)
	if u := Uses(l); len(u) != 0 {
		t.Errorf("Uses(%s) is %v", show(l), u)
	}
	if s, err := Render(l, tag.Tag{}, Value{Name: raw("n")}, Value{Name: raw("m")}, Value{}); s != "" || err != want {
		t.Errorf("Render(%s) is %q, %d, not %d", show(l), s, err, want)
	}
}

// P8.2: the canonical text of each kind of parts, alone, beside each other and within each other.
func TestPrint(t *testing.T) {
	for _, x := range []struct {
		l    []Node
		want string
	}{
		{nil, ""}, {[]Node{}, ""}, {parts(text("a # b")), "a # b"}, {parts(text(" ")), " "}, {parts(text(" ~\x80\xff")), " ~\x80\xff"}, {parts(text("#")), "#"},
		{parts(arg("n")), "{n}"}, {parts(arg("abcdefghijkl")), "{abcdefghijkl}"}, {parts(arg("a-.z_09")), "{a-.z_09}"}, {parts(arg("n"), arg("n")), "{n}{n}"}, {parts(text("a"), arg("n"), text("b")), "a{n}b"},
		{parts(number("n")), "{n, number}"}, {parts(number("abcdefghijkl"), text("x")), "{abcdefghijkl, number}x"},
		{parts(many("n", when("other"))), "{n, plural, other{}}"}, {parts(which("n", when("other"))), "{n, select, other{}}"}, {parts(many("n", when("other", text(" ")))), "{n, plural, other{ }}"},
		{parts(many("n", when("one", sign(), text(" a")), when("other", which("w", when("f", sign()), when("other"))))), "{n, plural, one{# a} other{{w, select, f{#} other{}}}}"},
		{parts(which("n", when("x", text("#")), when("other", text("a#b")))), "{n, select, x{#} other{a#b}}"}, {parts(which("n", when("other", many("m", when("other", sign(), sign()))))), "{n, select, other{{m, plural, other{##}}}}"},
		{parts(many("n", when("zero"), when("one"), when("two"), when("few"), when("many"), when("other"))), "{n, plural, zero{} one{} two{} few{} many{} other{}}"}, {parts(many("n", when("other"), when("many"), when("few"), when("two"), when("one"), when("zero"))), "{n, plural, other{} many{} few{} two{} one{} zero{}}"},
		{parts(which("n", when("other"), when("abcdefghijkl"), when("a-.z_09"), when("some"))), "{n, select, other{} abcdefghijkl{} a-.z_09{} some{}}"},
		{parts(text("#"), many("n", when("other", sign())), text("#")), "#{n, plural, other{#}}#"}, {parts(many("n", when("other", text("a"), sign(), text("b"), arg("m"), text("c")))), "{n, plural, other{a#b{m}c}}"},
		{parts(which("a", when("other", which("b", when("other", which("c", when("other"))))))), "{a, select, other{{b, select, other{{c, select, other{}}}}}}"}, {parts(many("a", when("other", which("b", when("other", many("c", when("other"))))))), "{a, plural, other{{b, select, other{{c, plural, other{}}}}}}"},
		{parts(many("a", when("other")), many("b", when("other")), number("c")), "{a, plural, other{}}{b, plural, other{}}{c, number}"},
		{parts(Node{Kind: Text, Text: "a", Cases: []Case{}}, Node{Kind: Arg, Name: raw("n"), Cases: []Case{}}, Node{Kind: Number, Name: raw("n"), Cases: []Case{}}, many("m", Case{"other", []Node{{Kind: Sign, Cases: []Case{}}}})), "a{n}{n, number}{m, plural, other{#}}"},
	} {
		checkPrint(t, x.l, x.want, api.OK)
		if got := written(x.l); got != x.want {
			t.Errorf("the model of %s is %q", show(x.l), got)
		}
	}
}

// P8.2: texts of 60 bytes, and of more.
func TestPrintLong(t *testing.T) {
	long := strings.Repeat("a", 60)
	checkPrint(t, parts(text(long)), long, api.OK)
	checkPrint(t, parts(text(long[:57]), arg("n")), long[:57]+"{n}", api.OK)
	checkPrint(t, parts(many("n", when("other", text(long[:40])))), "{n, plural, other{"+long[:40]+"}}", api.OK)
	checkPrint(t, parts(number("n"), text(long[:49])), "{n, number}"+long[:49], api.OK)
	ten := slices.Repeat(parts(arg("a"), arg("b")), 10)
	checkPrint(t, ten, strings.Repeat("{a}{b}", 10), api.OK)
	for _, l := range [][]Node{
		parts(text(long + "a")), parts(text(strings.Repeat("\xff", 61))), parts(text(strings.Repeat("a", 1<<16))), parts(text(long[:58]), arg("n")), parts(arg("n"), text(long[:58])), parts(number("n"), text(long[:50])), append(slices.Clone(ten), text("a")), slices.Repeat(parts(arg("a")), 1<<12),
		parts(many("n", when("other", text(long[:41])))), parts(which("a", when("other", which("b", when("other", which("c", when("other", text("x")))))))), parts(many("ab", when("other", many("b", when("other", many("c", when("other"))))))), parts(text("a"), many("a", when("other", many("b", when("other", many("c", when("other")))))), text("b")),
	} {
		checkRefused(t, l, api.ErrLong)
	}
	for _, s := range []string{"{a,select,other{{b,select,other{{c,select,other{x}}}}}}", "{a,select,b{}c{}d{}e{}f{}g{}h{}other{}}{b}{c}{d}{e}{f}", strings.Repeat("{a,number}", 6), "{n,number}{n,number}{n,number}" + strings.Repeat("a", 30)} {
		if len(s) > 60 || len(written(parse(t, s))) <= 60 {
			t.Fatalf("%q", s)
		}
		checkRefused(t, parse(t, s), api.ErrLong) // it was parsed, but its canonical text is too long
	}
}

// wrongRows are rows of parts of which no text could tell, wherever they stand.
func wrongRows() [][]Node {
	l := [][]Node{
		parts(text("")), parts(arg("n"), text("")), parts(text("{")), parts(text("}")), parts(text("a{n}")), parts(text("a}b")),
		parts(text("a"), text("b")), parts(arg("n"), text("a"), text("b")), parts(text("a"), text("a"), arg("n")), parts(text("a"), arg("n"), text("b"), text("c")), parts(text(" "), text(" ")),
		parts(many("n")), parts(which("n")), parts(many("n", when("one"))), parts(which("n", when("a"), when("b"))), parts(many("n", when("zero"), when("one"), when("two"), when("few"), when("many"))), parts(many("n", []Case{}...)),
		parts(many("n", when("other"), when("other"))), parts(many("n", when("one"), when("one"), when("other"))), parts(which("n", when("a"), when("b"), when("a"), when("other"))), parts(which("n", when("other"), when("a"), when("other"))), parts(which("n", when("other", text("a")), when("other", text("b")))),
		parts(many("n", when("some"), when("other"))), parts(many("n", when("other"), when("n"))), parts(many("n", when("Other"))), parts(many("n", when("other"), when("One"))), parts(many("n", when("other"), when("one "))), parts(many("n", when("other"), when("1"))), parts(many("n", when("other"), when(""))), parts(many("n", when(""))), parts(many("n", when("other\x00"), when("other"))),
		parts(which("n", when("other"), when(""))), parts(which("n", when("other"), when("1"))), parts(which("n", when("other"), when("A"))), parts(which("n", when("other"), when("a b"))), parts(which("n", when("other"), when("-"))), parts(which("n", when("other"), when("abcdefghijklm"))), parts(which("n", when("Other"))), parts(which("n", when("other"), when("a\x00"))), parts(which("n", when("a{}"), when("other"))), parts(which("n", when("other"), when("\xc3\xa9"))),
		parts(Node{Kind: Arg, Name: raw("n"), Text: "n"}), parts(Node{Kind: Number, Name: raw("n"), Text: "n"}), parts(Node{Kind: Plural, Name: raw("n"), Text: "n", Cases: []Case{when("other")}}), parts(Node{Kind: Select, Name: raw("n"), Text: "n", Cases: []Case{when("other")}}),
		parts(Node{Kind: Text, Text: "a", Name: raw("n")}), parts(Node{Kind: Text, Name: raw("n")}), parts(Node{Kind: Text, Text: "a", Name: raw("\x00n")}),
		parts(Node{Kind: Text, Text: "a", Cases: []Case{when("other")}}), parts(Node{Kind: Arg, Name: raw("n"), Cases: []Case{when("other")}}), parts(Node{Kind: Number, Name: raw("n"), Cases: []Case{when("other")}}), parts(Node{Kind: Arg, Name: raw("n"), Cases: []Case{{}}}), parts(Node{Kind: Text, Text: "a", Cases: []Case{{}}}),
		parts(many("n", when("other", Node{Kind: Sign, Text: "#"}))), parts(many("n", when("other", Node{Kind: Sign, Name: raw("n")}))), parts(many("n", when("other", Node{Kind: Sign, Cases: []Case{when("other")}}))), parts(many("n", when("other", Node{Kind: Sign, Cases: []Case{{}}}))),
		parts(many("n", when("other", text("#")))), parts(many("n", when("one", text("a#b")), when("other"))), parts(many("n", when("other", which("m", when("other", text("a#")))))),
	}
	for _, kind := range []int{math.MinInt, math.MinInt32, -1 << 32, -256, -1, 6, 7, 8, 255, 256, 257, 1 << 32, 1<<32 + 1, math.MaxInt} {
		l = append(l, parts(Node{Kind: kind}), parts(Node{Kind: kind, Text: "a"}), parts(Node{Kind: kind, Name: raw("n")}), parts(Node{Kind: kind, Name: raw("n"), Cases: []Case{when("other")}}))
	}
	for c := range 256 {
		if c < 32 || c == 127 {
			l = append(l, parts(text(string([]byte{byte(c)}))), parts(text("a"+string([]byte{byte(c)})+"b")))
		}
	}
	for _, n := range []string{"", "1", "N", "-a", "a b", "aN", "a\x00b", "\x00a", "a{", "a}", "a,number", "abcdefghijk\x01", "abcdefghijkL", "\xff\xff\xff\xff\xff\xff\xff\xff\xff\xff\xff\xff", "a\x00\x00\x00\x00\x00\x00\x00\x00\x00\x00a"} {
		l = append(l, parts(arg(n)), parts(number(n)), parts(many(n, when("other"))), parts(which(n, when("other"))))
	}
	return l
}

// P8.2: parts of which no text could tell, alone, beside others, and in a choice's cases.
func TestPrintWrong(t *testing.T) {
	for _, l := range wrongRows() {
		checkRefused(t, l, api.ErrForm)
		checkRefused(t, slices.Concat(parts(arg("n")), l, parts(arg("m"))), api.ErrForm)
		checkRefused(t, slices.Concat(l, parts(arg("m"), text(strings.Repeat("a", 70)))), api.ErrForm)
		checkRefused(t, slices.Concat(slices.Repeat(parts(arg("n")), 30), l), api.ErrForm)
		for _, choice := range []func(string, ...Case) Node{many, which} {
			checkRefused(t, parts(choice("n", when("other", l...))), api.ErrForm)
			checkRefused(t, parts(choice("n", when("one", arg("n")), when("other"), when("two", l...))), api.ErrForm)
			checkRefused(t, parts(which("n", when("other", choice("m", when("one", l...), when("other"))))), api.ErrForm)
		}
	}
}

// P8.2: signs outside of a plural, wherever they stand, and # in texts within one.
func TestPrintSigns(t *testing.T) {
	for _, l := range [][]Node{
		parts(sign()), parts(text("a"), sign()), parts(which("n", when("other", sign()))), parts(which("n", when("a", sign()), when("other"))), parts(which("n", when("other", which("m", when("other", sign()))))), parts(many("n", when("other")), sign()), parts(sign(), many("n", when("other", sign()))),
		parts(which("n", when("a", many("m", when("other", sign()))), when("other", sign()))), parts(which("n", when("a", sign()), when("other", many("m", when("other", sign()))))), parts(which("n", when("other", many("m", when("other", sign())), sign()))),
		parts(many("n", when("other", which("m", when("a", sign()), when("other", text("#")))))), parts(many("n", when("one", many("m", when("other"))), when("other", text("#")))),
	} {
		checkRefused(t, l, api.ErrForm)
	}
	checkPrint(t, parts(which("n", when("a", text("#")), when("other", many("m", when("other", sign())), text("#")))), "{n, select, a{#} other{{m, plural, other{#}}#}}", api.OK)
	checkPrint(t, parts(many("n", when("one", which("m", when("other", sign()))), when("other", sign()))), "{n, plural, one{{m, select, other{#}}} other{#}}", api.OK)
}

// P8.2: three choices within one another, which are told, and four, which aren't: of each mixture of kinds.
func TestPrintDeep(t *testing.T) {
	kinds := []func(string, ...Case) Node{many, which}
	for mixture := range 16 {
		l := parts()
		for i := range 4 {
			l = parts(kinds[mixture>>i&1]("n", when("other", l...)))
			if i < 3 {
				checkPrint(t, l, written(l), api.OK)
			}
		}
		checkRefused(t, l, api.ErrForm)
		checkRefused(t, append(parts(arg("n")), l...), api.ErrForm)
		behind := parts(which("a", when("b", l[0].Cases[0].Kids...), when("other")))
		checkRefused(t, behind, api.ErrForm)
	}
	beside := parts(many("a", when("other")), many("a", when("other")))
	checkPrint(t, beside, strings.Repeat("{a, plural, other{}}", 2), api.OK)
	checkRefused(t, append(slices.Repeat(beside, 2), which("a", when("other", many("a", when("other"))))), api.ErrLong)
}

// unlike are lists, no two of which are the same.
func unlike() [][]Node {
	return [][]Node{
		nil, parts(text("")), parts(text("a")), parts(text("b")), parts(text("a"), text("b")), parts(text("b"), text("a")), parts(text("ab")), parts(sign()), parts(sign(), sign()),
		parts(arg("a")), parts(arg("b")), parts(arg("ab")), parts(number("a")), parts(Node{Kind: 6, Name: raw("a")}), parts(Node{Kind: -1, Name: raw("a")}), parts(Node{Kind: 1 + 256, Name: raw("a")}), parts(Node{Kind: 1 + 1<<32, Name: raw("a")}), parts(Node{Kind: Arg, Name: name.Name{11: 'a'}}), parts(Node{Kind: Arg, Name: name.Name{0: 'a', 11: 'a'}}),
		parts(Node{Kind: Arg, Name: raw("a"), Text: "a"}), parts(Node{Kind: Text, Name: raw("a")}), parts(Node{Kind: Text, Name: raw("a"), Text: "a"}), parts(Node{Kind: Arg, Name: raw("a"), Cases: []Case{{}}}), parts(Node{Kind: Arg, Name: raw("a"), Cases: []Case{{}, {}}}),
		parts(many("a")), parts(which("a")), parts(many("a", when("other"))), parts(which("a", when("other"))), parts(many("b", when("other"))), parts(many("a", when("one"))), parts(many("a", when("one"), when("other"))), parts(many("a", when("other"), when("one"))), parts(many("a", when("other"), when("other"))),
		parts(many("a", when("one", text("a")), when("other"))), parts(many("a", when("one"), when("other", text("a")))), parts(many("a", when("one", text("a")), when("other", text("a")))), parts(many("a", when("one", text("a")), when("other", text("b")))), parts(many("a", when("one", text("b")), when("other", text("a")))),
		parts(many("a", when("other", many("a", when("other"))))), parts(many("a", when("other", which("a", when("other"))))), parts(many("a", when("other", many("a", when("other", text("a")))))), parts(many("a", when("other", many("a", when("one"), when("other"))))), parts(many("a", when("other", many("a", when("other", many("a", when("other", many("a", when("other"))))))))), parts(many("a", when("other", many("a", when("other", many("a", when("other", many("a", when("one"))))))))),
		parts(many("a", when("other")), text("a")), parts(many("a", when("other", text("a")))), parts(text("a"), many("a", when("other"))),
	}
}

// P8.2: lists are the same, part by part: those of which no text could tell, too.
func TestSame(t *testing.T) {
	first, second := unlike(), unlike()
	for i, a := range first {
		for k, b := range second {
			wasA, wasB := show(a), show(b)
			if Same(a, b) != (i == k) {
				t.Errorf("Same(%s, %s) is %t", wasA, wasB, i != k)
			}
			if show(a) != wasA || show(b) != wasB {
				t.Errorf("Same(%s, %s) made of them %s, %s", wasA, wasB, show(a), show(b))
			}
		}
	}
	if !Same(nil, []Node{}) || !Same([]Node{}, nil) || !Same(parts(Node{Cases: []Case{}}), parts(Node{})) || !Same(parts(which("a", Case{"b", nil})), parts(which("a", Case{"b", []Node{}}))) {
		t.Error("nil and empty lists are one")
	}
	if !Same(parse(t, "{n,number}{m,plural,one{#}other{}}"), parse(t, "{n,  number}{m, plural,  one{#}   other{} }")) {
		t.Error("blanks don't matter")
	}
	l := unlike()[40]
	if !Same(l, l) || !Same(slices.Concat(l, l), append(unlike()[40], unlike()[40]...)) || Same(slices.Concat(l, l), slices.Concat(l, unlike()[41])) || Same(l, append(slices.Clone(l), l...)) {
		t.Error("lists that stand in several places")
	}
}

// P8.2: lists that stand in several places of one, and are held against unlike ones there, however far within they differ.
func TestSameShared(t *testing.T) {
	within := func(s string) []Node { return parts(which("n", when("other", text(s)))) }
	for _, x := range [][2]string{{"a", "b"}, {"b", "a"}, {"b", "b"}, {"a", "a"}} {
		shared := within("a")
		l := parts(which("m", when("a", shared...), when("other", shared...)))
		m := parts(which("m", when("a", within(x[0])...), when("other", within(x[1])...)))
		if want := x == [2]string{"a", "a"}; Same(l, m) != want || Same(m, l) != want {
			t.Errorf("Same(%s, %s) is %t", show(l), show(m), Same(l, m))
		}
	}
	two := append(within("a"), within("b")...)
	for _, x := range [][2]int{{0, 1}, {1, 0}} { // a part of a list, and all of it
		begins := func(l []Node) []Node {
			kids := [2][]Node{l[:1], l}
			return parts(which("m", when("a", kids[x[0]]...), when("other", kids[x[1]]...)))
		}
		if other := append(within("a"), within("c")...); Same(begins(two), begins(other)) || !Same(begins(two), begins(append(within("a"), within("b")...))) {
			t.Errorf("Same of %s", show(begins(two)))
		}
	}
}

// P8.2: rows of parts are the same, if all that is told of them is.
func TestSameSome(t *testing.T) {
	c := chance(2)
	last := parts()
	for range 20000 {
		l := c.some(1, false)
		if Same(l, last) != (show(l) == show(last)) || !Same(l, l) {
			t.Errorf("Same(%s, %s) is %t", show(l), show(last), Same(l, last))
		}
		last = l
	}
}

// P8.2, P8.4: what is printed is parsed as it was, and a canonical text is printed as it is.
func TestPrintIsParsed(t *testing.T) {
	c := chance(4)
	long := 0
	for range 20000 {
		l := c.some(0, false)
		want := written(l)
		if len(want) > 60 {
			checkPrint(t, l, "", api.ErrLong)
			long++
			continue
		}
		checkPrint(t, l, want, api.OK)
		again, at, err := Parse(want)
		if !Same(again, l) || show(again) != show(l) || at != 0 || err != api.OK {
			t.Errorf("Parse(%q) is %s, %d at %d", want, show(again), err, at)
		}
		checkPrint(t, again, want, api.OK)
	}
	if long < 1000 {
		t.Errorf("%d were too long", long)
	}
}

// P8.4: what is parsed is printed as its canonical text, which is parsed as the same; whatever is changed in parts that are printed, a text tells it, or they are refused.
func TestPrintChanged(t *testing.T) {
	c := chance(6)
	told := map[api.Errno]int{}
	for range 40000 {
		l := c.some(0, false)
		at := &l
		for len(*at) > 0 {
			n := &(*at)[c.below(len(*at))]
			if len(n.Cases) > 0 && c.below(3) > 0 {
				at = &n.Cases[c.below(len(n.Cases))].Kids
				continue
			}
			change(&c, n)
			break
		}
		s, err := Print(l)
		told[err]++
		if err != api.OK {
			continue
		}
		again, _, err := Parse(s)
		if err != api.OK || show(again) != show(l) || s != written(l) {
			t.Errorf("Print(%s) is %q, which is parsed as %s", show(l), s, show(again))
		}
	}
	if told[api.OK] < 1000 || told[api.ErrForm] < 10000 || told[api.ErrLong] < 1000 {
		t.Error(told)
	}
}

// change makes another part of one.
func change(c *chance, n *Node) {
	switch c.below(5) {
	case 0:
		n.Kind = c.below(8) - 1
	case 1:
		n.Text = c.pick("", "#", "a", "{", "a}", "\n", "\xff")
	case 2:
		n.Name = raw(c.pick("", "n", "1", "abcdefghijkl", "a\x00b"))
	case 3:
		n.Cases = append(n.Cases, when(c.pick("", "other", "one", "x", "N")))
	case 4:
		n.Cases = nil
	}
}
