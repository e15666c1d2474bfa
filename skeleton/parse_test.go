package skeleton

import (
	"regexp"
	"slices"
	"strings"
	"testing"

	"vulgate/api"
)

// checkParse holds a text's parts against what they must be.
func checkParse(t *testing.T, s string, want []Node) {
	t.Helper()
	l, at, err := Parse(s)
	if show(l) != show(want) || at != 0 || err != api.OK {
		t.Errorf("Parse(%q) is %s, %d at %d, not %s", s, show(l), err, at, show(want))
	}
}

// checkWrong holds where a text is wrong, and what, against what it must be.
func checkWrong(t *testing.T, s string, wantAt int, want api.Errno) {
	t.Helper()
	if l, at, err := Parse(s); len(l) != 0 || at != wantAt || err != want {
		t.Errorf("Parse(%q) is %s, %d at %d, not %d at %d", s, show(l), err, at, want, wantAt)
	}
}

// P8.1: texts alone, and signs: which bytes are text, and where.
func TestParseText(t *testing.T) {
	checkParse(t, "", nil)
	for c := range 256 {
		s := string([]byte{byte(c)})
		for _, x := range []string{s, "a" + s, s + "b", "a" + s + "b"} {
			switch {
			case c == '{': // b goes on with it, as a name
				checkWrong(t, x, len(x), api.ErrForm)
			case c < 32 || c == 127 || c == '}':
				checkWrong(t, x, strings.Index(x, s), api.ErrForm)
			default:
				checkParse(t, x, parts(text(x)))
			}
		}
		within := "{n, plural, other{" + s + "}}"
		switch {
		case c == '{':
			checkWrong(t, within, 19, api.ErrForm)
		case c == '}':
			checkWrong(t, within, 20, api.ErrForm)
		case c == '#':
			checkParse(t, within, parts(many("n", when("other", sign()))))
		case c < 32 || c == 127:
			checkWrong(t, within, 18, api.ErrForm)
		default:
			checkParse(t, within, parts(many("n", when("other", text(s)))))
		}
	}
	checkParse(t, " ~\x80\xff", parts(text(" ~\x80\xff")))
	checkParse(t, "a # b", parts(text("a # b")))
	checkParse(t, "#", parts(text("#")))
	checkParse(t, "##{n}#", parts(text("##"), arg("n"), text("#")))
	checkParse(t, "{n,plural,other{a##b}}", parts(many("n", when("other", text("a"), sign(), sign(), text("b")))))
	checkParse(t, "#{n,plural,other{#}}#", parts(text("#"), many("n", when("other", sign())), text("#")))
	checkParse(t, "{a,select,other{#}}", parts(which("a", when("other", text("#")))))
	checkParse(t, "{n,plural,other{{a,select,other{x#}}}}", parts(many("n", when("other", which("a", when("other", text("x"), sign()))))))
	checkParse(t, "{n,plural,one{{a,select,x{#} other{#{m}#}}#} other{}}#", parts(many("n", when("one", which("a", when("x", sign()), when("other", sign(), arg("m"), sign())), sign()), when("other")), text("#")))
	checkParse(t, "{a,select,b{#}other{{n,plural,other{#}}#}}", parts(which("a", when("b", text("#")), when("other", many("n", when("other", sign())), text("#")))))
	checkParse(t, "{a,select,b{{n,plural,other{#}}}other{#}}", parts(which("a", when("b", many("n", when("other", sign()))), when("other", text("#")))))
}

// P8.1: places: values, numbers, plurals, selects, alone, beside each other and within each other.
func TestParsePlaces(t *testing.T) {
	for _, x := range []struct {
		s    string
		want []Node
	}{
		{"{n}", parts(arg("n"))}, {"{abcdefghijkl}", parts(arg("abcdefghijkl"))}, {"{a-.z_09}", parts(arg("a-.z_09"))}, {"{number}", parts(arg("number"))}, {"{plural}", parts(arg("plural"))},
		{"a{n}b", parts(text("a"), arg("n"), text("b"))}, {"{n}{m}", parts(arg("n"), arg("m"))}, {" {n} {n} ", parts(text(" "), arg("n"), text(" "), arg("n"), text(" "))},
		{"{n,number}", parts(number("n"))}, {"{n, number}", parts(number("n"))}, {"{n,   number}x", parts(number("n"), text("x"))}, {"{number,number}", parts(number("number"))}, {"{abcdefghijkl, number}", parts(number("abcdefghijkl"))},
		{"{n,plural,other{}}", parts(many("n", when("other")))}, {"{n, plural, other{}}", parts(many("n", when("other")))}, {"{n,   plural,    other{}   }", parts(many("n", when("other")))},
		{"{n,select,other{}}", parts(which("n", when("other")))}, {"{n,  select,  other{ }  }", parts(which("n", when("other", text(" "))))}, {"{select,select,select{}other{}}", parts(which("select", when("select"), when("other")))},
		{"{n,plural,zero{0}one{1}two{2}few{3}many{4}other{5}}", parts(many("n", when("zero", text("0")), when("one", text("1")), when("two", text("2")), when("few", text("3")), when("many", text("4")), when("other", text("5"))))},
		{"{n,plural,other{5} many{4} few{3} two{2} one{1} zero{0}}", parts(many("n", when("other", text("5")), when("many", text("4")), when("few", text("3")), when("two", text("2")), when("one", text("1")), when("zero", text("0"))))},
		{"{n,select,zero{}f{}abcdefghijkl{x}a-.z_09{}some{}other{}}", parts(which("n", when("zero"), when("f"), when("abcdefghijkl", text("x")), when("a-.z_09"), when("some"), when("other")))},
		{"{n,plural,  one{a, b}   other{ c }     few{}}", parts(many("n", when("one", text("a, b")), when("other", text(" c ")), when("few")))},
		{"{n,plural,other{{n}{n,number}}}", parts(many("n", when("other", arg("n"), number("n"))))},
		{"{n,plural,one{{m}}other{{m,plural,other{##}}}}", parts(many("n", when("one", arg("m")), when("other", many("m", when("other", sign(), sign())))))},
		{"{a,select,b{{a}}other{{a,select,b{}other{c}}d}}e", parts(which("a", when("b", arg("a")), when("other", which("a", when("b"), when("other", text("c"))), text("d"))), text("e"))},
		{"{a,plural,other{{b,plural,other{{c,plural,other{#}}}}}}", parts(many("a", when("other", many("b", when("other", many("c", when("other", sign())))))))},
		{"{a,select,other{{b,select,other{{c,select,other{#}}}}}}", parts(which("a", when("other", which("b", when("other", which("c", when("other", text("#"))))))))},
		{"{a,plural,other{{b,select,other{{c,plural,other{{d}}}}}}}", parts(many("a", when("other", which("b", when("other", many("c", when("other", arg("d"))))))))},
		{"{a,select,other{{b,plural,other{}}{c,plural,other{}}}}", parts(which("a", when("other", many("b", when("other")), many("c", when("other")))))},
	} {
		checkParse(t, x.s, x.want)
	}
}

// P8.1: texts of 60 bytes, and of more, whatever stands in them.
func TestParseLong(t *testing.T) {
	for _, c := range []string{"a", " ", "#", "\xff"} {
		checkParse(t, strings.Repeat(c, 60), parts(text(strings.Repeat(c, 60))))
	}
	checkParse(t, "{n}"+strings.Repeat("b", 57), parts(arg("n"), text(strings.Repeat("b", 57))))
	checkParse(t, "{n,"+strings.Repeat(" ", 50)+"number}", parts(number("n")))
	checkParse(t, "{n,select,other{"+strings.Repeat("#", 42)+"}}", parts(which("n", when("other", text(strings.Repeat("#", 42))))))
	checkWrong(t, strings.Repeat("a", 59)+"\n", 59, api.ErrForm)
	checkWrong(t, strings.Repeat("a", 59)+"{", 60, api.ErrForm)
	for _, c := range []string{"a", " ", "#", "\xff", "{", "}", "\x00", "\n", "{n}", "1"} {
		for _, times := range []int{61, 62, 120, 1 << 16} {
			checkWrong(t, strings.Repeat(c, times), 0, api.ErrLong)
		}
	}
	checkWrong(t, "{n,"+strings.Repeat(" ", 51)+"number}", 0, api.ErrLong)
	checkWrong(t, "{a,select,other{{b,select,other{{c,select,other{{d,select,oth", 0, api.ErrLong)
}

// P8.1: each error, at each place where it can stand.
func TestParseWrong(t *testing.T) {
	for _, x := range []struct {
		s   string
		at  int
		err api.Errno
	}{
		// no place ends, or what begins ends too early
		{"}", 0, api.ErrForm}, {"a}", 1, api.ErrForm}, {"{n}}", 3, api.ErrForm}, {"{n,plural,other{}}}", 18, api.ErrForm}, {"{n,plural,other{}}}}", 18, api.ErrForm}, {"a\n", 1, api.ErrForm}, {"\x7f", 0, api.ErrForm}, {"{n}\x1f}", 3, api.ErrForm}, {"a\x00{1}", 1, api.ErrForm},
		{"{", 1, api.ErrForm}, {"{n", 2, api.ErrForm}, {"{n,", 3, api.ErrForm}, {"{n, ", 4, api.ErrForm}, {"{n, number", 10, api.ErrForm}, {"{n, plural", 10, api.ErrForm}, {"{n, plural,", 11, api.ErrForm}, {"{n, plural,  ", 13, api.ErrForm}, {"{n, plural, one", 15, api.ErrForm}, {"{n, plural, one{", 16, api.ErrForm}, {"{n, plural, one{a", 17, api.ErrForm}, {"{n, plural, one{a}", 18, api.ErrForm}, {"{n, plural, one{a} ", 19, api.ErrForm}, {"{n, plural, other{#}", 20, api.ErrForm}, {"{n, select, a{{b", 16, api.ErrForm},
		// names: none, of other bytes, that are none, too long
		{"{}", 1, api.ErrForm}, {"{ n}", 1, api.ErrForm}, {"{N}", 1, api.ErrForm}, {"{{n}}", 1, api.ErrForm}, {"{,number}", 1, api.ErrForm}, {"{#}", 1, api.ErrForm}, {"{\xc3\xa9}", 1, api.ErrForm}, {"{\n}", 1, api.ErrForm}, {"{nN}", 2, api.ErrForm}, {"{n }", 2, api.ErrForm}, {"{n ,number}", 2, api.ErrForm}, {"{n{}}", 2, api.ErrForm}, {"{n#}", 2, api.ErrForm}, {"{n/}", 2, api.ErrForm}, {"{n:}", 2, api.ErrForm}, {"{n`}", 2, api.ErrForm}, {"{n+}", 2, api.ErrForm}, {"{n\x00}", 2, api.ErrForm}, {"{n\xff}", 2, api.ErrForm},
		{"{1}", 1, api.ErrName}, {"{0n}", 1, api.ErrName}, {"{-}", 1, api.ErrName}, {"{_n}", 1, api.ErrName}, {"{.}", 1, api.ErrName}, {"{1", 1, api.ErrName}, {"{1N", 1, api.ErrName}, {"{1 }", 1, api.ErrName}, {"{1,number}", 1, api.ErrName}, {"{abcdefghijklm}", 1, api.ErrName}, {"{abcdefghijklm", 1, api.ErrName}, {"ab{1,x", 3, api.ErrName}, {"{n}{1}", 4, api.ErrName}, {"{n,plural,other{{1}}}", 17, api.ErrName}, {"{1,date}", 1, api.ErrName},
		// kinds: none, of other bytes, that are none
		{"{n,}", 3, api.ErrForm}, {"{n, }", 4, api.ErrForm}, {"{n,,number}", 3, api.ErrForm}, {"{n,Number}", 3, api.ErrForm}, {"{n,{}}", 3, api.ErrForm}, {"{n,\tnumber}", 3, api.ErrForm}, {"{n,numberX}", 9, api.ErrForm}, {"{n,number }", 9, api.ErrForm}, {"{n, number, x}", 10, api.ErrForm}, {"{n,number{}}", 9, api.ErrForm},
		{"{n,date}", 3, api.ErrKind}, {"{n, date}", 4, api.ErrKind}, {"{n,   d", 6, api.ErrKind}, {"{n,1}", 3, api.ErrKind}, {"{n,.", 3, api.ErrKind}, {"{n,numbe}", 3, api.ErrKind}, {"{n,numbers}", 3, api.ErrKind}, {"{n,numbe", 3, api.ErrKind}, {"{n,plurals,other{}}", 3, api.ErrKind}, {"{n,plural-,other{}}", 3, api.ErrKind}, {"{n,selec,other{}}", 3, api.ErrKind}, {"{n,select1,other{}}", 3, api.ErrKind}, {"{n,text}", 3, api.ErrKind}, {"{n,arg}", 3, api.ErrKind}, {"{n,sign}", 3, api.ErrKind}, {"{n,n}", 3, api.ErrKind}, {"{n,other{}}", 3, api.ErrKind}, {"{n,plural,other{{m, x}}}", 20, api.ErrKind}, {"{n,abcdefghijklm}", 3, api.ErrKind},
		// choices: what must come behind their kind
		{"{n, plural}", 10, api.ErrForm}, {"{n, select}", 10, api.ErrForm}, {"{n,plural ,other{}}", 9, api.ErrForm}, {"{n,plural{}}", 9, api.ErrForm}, {"{n,plural other{}}", 9, api.ErrForm}, {"{n,plural,,other{}}", 10, api.ErrForm}, {"{n,plural,{}}", 10, api.ErrForm}, {"{n,plural,#{}}", 10, api.ErrForm}, {"{n,plural, One{}}", 11, api.ErrForm}, {"{n,plural,=1{}}", 10, api.ErrForm}, {"{n,plural,\nother{}}", 10, api.ErrForm},
		// cases: words that may not stand there, and what must come behind them
		{"{n,plural,some{a}}", 10, api.ErrName}, {"{n, plural,  some{a}}", 13, api.ErrName}, {"{n,plural,o", 10, api.ErrName}, {"{n,plural,1{}}", 10, api.ErrName}, {"{n,plural,others{}}", 10, api.ErrName}, {"{n,plural,one1", 10, api.ErrName}, {"{n,plural,one{}a{}}", 15, api.ErrName}, {"{n,plural,other{}a", 17, api.ErrName}, {"{n,plural,other{}one1{}}", 17, api.ErrName}, {"{n,plural,oneother{}}", 10, api.ErrName}, {"{n,plural,abcdefghijklm{}}", 10, api.ErrName},
		{"{n,select,1{}}", 10, api.ErrName}, {"{n,select,-{}}", 10, api.ErrName}, {"{n,select,.", 10, api.ErrName}, {"{n,select,abcdefghijklm{}}", 10, api.ErrName}, {"{n,select,a{} 0b{}}", 14, api.ErrName}, {"{n,select,a{}other{}_", 20, api.ErrName},
		{"{n,plural,other {}}", 15, api.ErrForm}, {"{n,plural,other}", 15, api.ErrForm}, {"{n,plural,other,}", 15, api.ErrForm}, {"{n,plural,other one{}}", 15, api.ErrForm}, {"{n,plural,otherX{}}", 15, api.ErrForm}, {"{n,plural,one{},other{}}", 15, api.ErrForm}, {"{n,plural,one{}{}}", 15, api.ErrForm}, {"{n,plural,one{} X}", 16, api.ErrForm}, {"{n,plural,other{}#}", 17, api.ErrForm}, {"{n,plural,other{\t}}", 16, api.ErrForm}, {"{n,plural,other{a\x7f}}", 17, api.ErrForm}, {"{n,select,other{}\n}", 17, api.ErrForm},
		// words that stand twice
		{"{n,select,a{}a{}other{}}", 13, api.ErrTwice}, {"{n, select, a{} a{} other{}}", 16, api.ErrTwice}, {"{n,select,a{}b{}a", 16, api.ErrTwice}, {"{n,select,other{}  other{}}", 19, api.ErrTwice}, {"{n,plural,one{}one{}}", 15, api.ErrTwice}, {"{n,plural,other{}other{}}", 17, api.ErrTwice}, {"{n,plural,one{}two{}few{}two", 25, api.ErrTwice}, {"{n,plural,one{}one }", 15, api.ErrTwice}, {"{n,select,a{{n,select,a{}other{}}}a{}}", 34, api.ErrTwice}, {"{n,select,a{{n,select,a{}a{}}}other{}}", 25, api.ErrTwice},
		// choices without other
		{"{n,plural,}", 10, api.ErrSkel}, {"{n, select,   }", 14, api.ErrSkel}, {"{n,plural,one{a}}", 16, api.ErrSkel}, {"{n, plural, one{a}}", 18, api.ErrSkel}, {"{n, plural, one{a}  }", 20, api.ErrSkel}, {"{n,select,a{}b{}c{}}", 19, api.ErrSkel}, {"{n,plural,zero{}one{}two{}few{}many{}}", 37, api.ErrSkel}, {"{n,plural,other{{m,plural,one{}}}}", 31, api.ErrSkel}, {"{n,plural,one{{m,plural,other{}}}}", 33, api.ErrSkel}, {"{n,select,o{other}}", 18, api.ErrSkel}, {"{n,plural,one{}}}", 15, api.ErrSkel}, {"{other,select,a{}}", 17, api.ErrSkel},
		// a fourth choice
		{"{a,select,other{{b,select,other{{c,select,other{{d,select,", 51, api.ErrDeep}, {"{a,plural,other{{b,plural,other{{c,plural,other{{d,plural}", 51, api.ErrDeep}, {"{a,select,other{{b,plural,other{{c,select,other{{d,plural", 51, api.ErrDeep}, {"{a,plural,one{{b,plural,one{{c,plural,one{{d, select X", 46, api.ErrDeep}, {"{a,plural,one{{b,plural,one{{c,plural,one{{d,  plural }}}}}", 47, api.ErrDeep},
		{"{a,plural,one{{b,plural,one{{c,plural,one{{d,plura", 45, api.ErrKind}, {"{a,plural,one{{b,plural,one{{c,plural,one{{d,number}}}}", 53, api.ErrSkel}, {"{a,plural,one{{b,plural,one{{c,plural,one{{d,selects", 45, api.ErrKind}, {"{a,plural,one{{b,plural,other{{c,plural,other{}}}}", 50, api.ErrForm},
		// of two that are wrong the first
		{"{1}{N}", 1, api.ErrName}, {"{N}{1}", 1, api.ErrForm}, {"}{1}", 0, api.ErrForm}, {"{1}}", 1, api.ErrName}, {"{n,date}\n", 3, api.ErrKind}, {"\n{n,date}", 0, api.ErrForm}, {"{n,plural,some{}some{}}", 10, api.ErrName}, {"{n,plural,one{}one{}some{}}", 15, api.ErrTwice}, {"{n,plural,one{{m,plural,one{}}}one{}}", 29, api.ErrSkel}, {"{n,plural,one{}}{1}", 15, api.ErrSkel}, {"{n,plural,one{{1}}}", 15, api.ErrName}, {"{n,plural,one{\n}one{}}", 14, api.ErrForm},
	} {
		checkWrong(t, x.s, x.at, x.err)
	}
}

// level is a choice that stands around, with the words that it had.
type level struct {
	plural bool
	words  []string
}

// machine reads a text from the left: what may come next hangs on its state alone, and on the choices around.
type machine struct {
	state string
	over  []level
	out   string
}

// What stands as a name, or a word, and which of these are names, and categories.
var (
	modelRun      = regexp.MustCompile(`\A[-a-z0-9_.]*`)
	modelName     = regexp.MustCompile(`\A[a-z][-a-z0-9_.]{0,11}\z`)
	modelCategory = regexp.MustCompile(`\A(?:zero|one|two|few|many|other)\z`)
)

// kind reads a kind's word.
func (m *machine) kind(word string) api.Errno {
	m.state = "chosen"
	switch {
	case word == "number":
		m.state = "placed"
	case word != "plural" && word != "select":
		return api.ErrKind
	case len(m.over) == 3:
		return api.ErrDeep
	default:
		m.over = append(m.over, level{plural: word == "plural"})
	}
	return api.OK
}

// word reads a case's.
func (m *machine) word(word string) api.Errno {
	m.state = "word"
	last := &m.over[len(m.over)-1]
	switch {
	case last.plural && !modelCategory.MatchString(word), !modelName.MatchString(word):
		return api.ErrName
	case slices.Contains(last.words, word):
		return api.ErrTwice
	}
	last.words = append(last.words, word)
	return api.OK
}

// end reads the } behind a choice's cases.
func (m *machine) end() api.Errno {
	last := m.over[len(m.over)-1]
	m.over, m.state = m.over[:len(m.over)-1], "message"
	if !slices.Contains(last.words, "other") {
		return api.ErrSkel
	}
	return api.OK
}

// step reads what comes next: how many bytes that are, and what is wrong with it.
func (m *machine) step(s string) (int, api.Errno) {
	word, c := modelRun.FindString(s), s[:1]
	next := map[string]string{"message{": "name", "message}": "cases", "named}": "message", "placed}": "message", "named,": "kind", "chosen,": "cases", "word{": "message"}[m.state+c]
	switch {
	case (m.state == "kind" || m.state == "cases") && c == " ":
		return 1, api.OK
	case m.state == "cases" && c == "}":
		m.out += c
		return 1, m.end()
	case m.state == "kind" && word != "":
		m.out += " " + word
		return len(word), m.kind(word)
	case m.state == "cases" && word != "":
		m.out += " " + word
		return len(word), m.word(word)
	case m.state == "name" && modelName.MatchString(word):
		m.state = "named"
		m.out += word
		return len(word), api.OK
	case m.state == "name" && word != "":
		return 0, api.ErrName
	case m.state == "message" && c >= " " && c != "{" && c != "}" && c != "\x7f":
		next = m.state
	case m.state+c == "message}" && len(m.over) == 0, next == "":
		return 0, api.ErrForm
	}
	m.state = next
	m.out += c
	return 1, api.OK
}

// model reads a text by the chapter's words: its canonical text, or where it is wrong, and what.
func model(s string) (string, int, api.Errno) {
	if len(s) > 60 {
		return "", 0, api.ErrLong
	}
	m := machine{state: "message"}
	for i := 0; i < len(s); {
		many, err := m.step(s[i:])
		if err != api.OK {
			return "", i, err
		}
		i += many
	}
	if m.state != "message" || len(m.over) > 0 {
		return "", len(s), api.ErrForm
	}
	return m.out, 0, api.OK
}

// rightRow tells of a row whether no two texts stand beside each other, and each text and sign where it may.
func rightRow(l []Node, inPlural bool) bool {
	for i, n := range l {
		switch {
		case n.Kind == Text && (i > 0 && l[i-1].Kind == Text || n.Text == "" || inPlural && strings.Contains(n.Text, "#") || strings.ContainsAny(n.Text, "{}")), n.Kind == Sign && !inPlural:
			return false
		}
		for _, c := range n.Cases {
			if !rightRow(c.Kids, inPlural || n.Kind == Plural) {
				return false
			}
		}
	}
	return true
}

// checkModel holds what is told of a text against what the model tells.
func checkModel(t *testing.T, s string) api.Errno {
	t.Helper()
	want, wantAt, wantErr := model(s)
	l, at, err := Parse(s)
	if at != wantAt || err != wantErr || err != api.OK && len(l) != 0 || err == api.OK && (written(l) != want || !rightRow(l, false)) {
		t.Errorf("Parse(%q) is %s, %d at %d, not %q, %d at %d", s, show(l), err, at, want, wantErr, wantAt)
	}
	return err
}

// P8.1: texts that end too early at each of their bytes, and those with a byte too few, or another one, at each place.
func TestParseEachByte(t *testing.T) {
	for _, s := range []string{
		"", "a # b", "{n}", "a{abcdefghijkl}b", "{n,  number}x", "{n,plural,other{}}", "{n, plural, one{# a}  other{{w, select, f{#} other{}}} }",
		"{n,plural,zero{0}one{1}two{2}few{3}many{4}other{5}}", "{a,select,b{{a}}other{{a,select,b{}other{c}}d}}e", "{a, select, other{{b, select, other{{c, select, other{}}}}}}", "{a,plural,other{{b,select,other{{c,plural,other{{d}}}}}}}", "#{n,number}{m,select,x{ }other{#{n}# }}",
	} {
		checkModel(t, s)
		for i := range s {
			checkModel(t, s[:i])
			checkModel(t, s[:i]+s[i+1:])
			for c := range 256 {
				with := string([]byte{byte(c)})
				checkModel(t, s[:i]+with)
				checkModel(t, s[:i]+with+s[i+1:])
				checkModel(t, s[:i]+with+s[i:])
			}
		}
	}
}

// P8.1: all short rows of tokens, behind each beginning.
func TestParseShort(t *testing.T) {
	tokens := []string{"{", "}", ",", " ", "#", "n", "1", "N", "other", "one", "number", "plural", "select"}
	var rows []string
	for _, a := range tokens {
		for _, b := range tokens {
			for _, c := range tokens {
				for _, d := range tokens {
					rows = append(rows, a+b+c+d)
				}
			}
		}
	}
	told := map[api.Errno]int{}
	for _, begin := range []string{"", "{", "{n", "{n,", "{n,plural", "{n,plural,", "{n,select,one{}", "{n,plural,one{", "{n,select,other{", "{n,plural,other{}", "{a,select,n{{n,plural,other{", "{a,plural,other{{b,plural,other{{c,select,other{", "{a,plural,one{{b,plural,one{{c,plural,one{{d,"} {
		for _, row := range rows {
			told[checkModel(t, begin+row)]++
			if begin == "" {
				told[checkModel(t, "{n,plural,other{"+row+"}}")]++
			}
		}
	}
	for _, err := range []api.Errno{api.OK, api.ErrLong, api.ErrForm, api.ErrName, api.ErrKind, api.ErrDeep, api.ErrTwice, api.ErrSkel} {
		if told[err] < 10 {
			t.Errorf("the error %d was told %d times", err, told[err])
		}
	}
}

// P8.1: texts with blanks where they may stand, none and many, and with one where it may not.
func TestParseBlanks(t *testing.T) {
	want := parts(many("n", when("one", text("a")), when("other", number("m"), arg("k"))))
	const may, mayNot = "_", "^" // where blanks may stand, and where they may not
	form := "{^n^,_plural^,_one^{a}_other^{{^m^,_number^}{^k^}}_}"
	without := strings.ReplaceAll(form, mayNot, "")
	for _, blanks := range []string{"", " ", "  ", "   "} {
		checkParse(t, strings.ReplaceAll(without, may, blanks), want)
	}
	for i := range form {
		rest := strings.ReplaceAll(form[i+1:], may, "")
		at := len(strings.NewReplacer(may, "", mayNot, "").Replace(form[:i]))
		s := strings.ReplaceAll(strings.ReplaceAll(form[:i], may, "")+" "+rest, mayNot, "")
		switch form[i : i+1] {
		case may:
			checkParse(t, s, want)
			checkParse(t, strings.Replace(s, " ", "    ", 1), want)
			for _, c := range []string{"\t", "\n", "\xa0", "\x00"} {
				checkWrong(t, strings.Replace(s, " ", c, 1), at, api.ErrForm)
			}
		case mayNot:
			checkWrong(t, s, at, api.ErrForm)
		}
	}
}

// P8.1: rows of parts, as texts with other blanks, and such texts with some bytes changed.
func TestParseSome(t *testing.T) {
	c := chance(8)
	told := map[api.Errno]int{}
	for range 20000 {
		l := c.some(0, false)
		s := written(l)
		if len(s) <= 60 {
			checkParse(t, s, l)
		}
		told[checkModel(t, s)]++
		b := []byte(s)
		for range c.below(4) {
			at := c.below(len(b) + 1)
			upTo := min(at+c.below(3), len(b))
			b = slices.Concat(b[:at], []byte(c.pick("", "{", "}", ",", " ", "#", "n", "one", "other{}", "\n", "X", "plural", "{m}")), b[upTo:])
			told[checkModel(t, string(b))]++
		}
	}
	if told[api.OK] < 10000 || told[api.ErrForm] < 1000 || told[api.ErrSkel] < 10 || told[api.ErrTwice] < 10 {
		t.Error(told)
	}
}

// P8.1: the parts are new memory.
func TestParseNewMemory(t *testing.T) {
	const s = "a{n,plural,one{b{m}}other{#}}"
	want := show(parts(text("a"), many("n", when("one", text("b"), arg("m")), when("other", sign()))))
	first, second := parse(t, s), parse(t, s)
	first[1].Cases[0].Kids[0] = arg("x")
	first[1].Cases[1] = when("few")
	_ = append(first[1].Cases[:1], when("zero"))
	_ = append(first[1].Cases[0].Kids[:1], sign())
	first[0] = sign()
	if show(second) != want || show(parse(t, s)) != want {
		t.Errorf("the second is %s, a third %s", show(second), show(parse(t, s)))
	}
	third := parse(t, s)
	for _, l := range [][]Node{third, third[1].Cases[0].Kids, third[1].Cases[1].Kids} {
		_ = append(l, text("x")) // lists of one answer share no room
	}
	_ = append(third[1].Cases, when("x"))
	if show(third) != want {
		t.Errorf("it became %s", show(third))
	}
}
