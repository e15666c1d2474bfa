package skeleton

import (
	"slices"
	"strconv"
	"strings"
	"testing"

	"vulgate/api"
	"vulgate/name"
	"vulgate/plural"
	"vulgate/tag"
)

// value is a number's.
func value(n string, number uint64) Value { return Value{Name: raw(n), N: number} }

// worded is a text's.
func worded(n, text string) Value { return Value{Name: raw(n), Text: text} }

// checkRender holds a message with its values against what it must be, and what was handed in against what it was.
func checkRender(t *testing.T, l []Node, x tag.Tag, values []Value, want string, wantErr api.Errno) {
	t.Helper()
	was, wereValues := show(l), slices.Clone(values)
	if s, err := Render(l, x, values...); s != want || err != wantErr {
		t.Errorf("Render(%s, %q, %v) is %q, %d, not %q, %d", was, x, values, s, err, want, wantErr)
	}
	if show(l) != was || !slices.Equal(values, wereValues) {
		t.Errorf("Render(%s, %q, %v) made of them %s, %v", was, x, wereValues, show(l), values)
	}
}

// P8.3: each kind of parts with its values.
func TestRender(t *testing.T) {
	const files = "{n, plural, one{# file} other{# files}}"
	const cases = "{n,plural,zero{z}one{o}two{t}few{f}many{m}other{x}}"
	for _, x := range []struct {
		s, tag string
		values []Value
		want   string
	}{
		{"", "root", nil, ""}, {"a # b", "root", nil, "a # b"}, {"a", "ru", []Value{value("n", 1), worded("m", "x"), {}}, "a"},
		// values
		{"{n}", "root", []Value{value("n", 0)}, "0"}, {"{n}", "root", []Value{value("n", 7)}, "7"}, {"{n}", "root", []Value{value("n", greatest)}, "18446744073709551615"}, {"{n}", "root", []Value{worded("n", "x")}, "x"}, {"{n}", "root", []Value{{raw("n"), 7, "x"}}, "x"}, {"{n}", "root", []Value{{raw("n"), 7, " "}}, " "}, {"{n}", "root", []Value{{raw("n"), 7, "0"}}, "0"}, {"a{n}b{n}", "root", []Value{worded("n", "x")}, "axbx"}, {"{n} of {m}", "de", []Value{value("m", 10), value("n", 2)}, "2 of 10"},
		{"{n}{m}", "root", []Value{worded("n", "{m}#"), worded("m", "\x00\n}\xff")}, "{m}#\x00\n}\xff"}, {"{abcdefghijkl}", "root", []Value{worded("abcdefghijk", "no"), worded("abcdefghijkl", "yes")}, "yes"},
		// numbers
		{"{n, number}", "root", []Value{value("n", 0)}, "0"}, {"{n, number}", "root", []Value{{raw("n"), 7, "x"}}, "7"}, {"{n, number}", "root", []Value{worded("n", "x")}, "0"}, {"{n, number}", "root", []Value{value("n", greatest)}, "18446744073709551615"}, {"{n, number}", "ar", []Value{value("n", 1000)}, "1000"}, {"{n}={n,number}", "root", []Value{{raw("n"), 1 << 32, "x"}}, "x=4294967296"},
		// values that are given twice: the last one counts
		{"{n}", "root", []Value{value("n", 1), value("n", 2)}, "2"}, {"{n}", "root", []Value{worded("n", "x"), value("n", 2)}, "2"}, {"{n}", "root", []Value{value("n", 2), worded("n", "x"), worded("m", "y")}, "x"}, {"{n}{n,number}", "root", []Value{{raw("n"), 7, "x"}, value("m", 9), {raw("n"), 0, "y"}}, "y0"}, {"{n,select,a{A}other{X}}", "root", []Value{worded("n", "a"), value("n", 0)}, "X"}, {files, "de", []Value{value("n", 1), value("n", 2), value("n", 1)}, "1 file"},
		// plurals, and their signs
		{files, "de", []Value{value("n", 1)}, "1 file"}, {files, "de", []Value{value("n", 0)}, "0 files"}, {files, "de", []Value{value("n", 2)}, "2 files"}, {files, "fr", []Value{value("n", 0)}, "0 file"}, {files, "ja", []Value{value("n", 1)}, "1 files"}, {files, "root", []Value{value("n", 1)}, "1 file"}, {files, "ru", []Value{value("n", 21)}, "21 file"}, {files, "ru", []Value{value("n", 3)}, "3 files"}, {files, "de", []Value{{raw("n"), 1, "two"}}, "1 file"}, {files, "de", []Value{worded("n", "one")}, "0 files"}, {files, "de", []Value{value("n", greatest)}, "18446744073709551615 files"}, {files, "ru-Latn-RU", []Value{value("n", 101)}, "101 file"},
		{cases, "ar", []Value{value("n", 0)}, "z"}, {cases, "ar", []Value{value("n", 1)}, "o"}, {cases, "ar-EG", []Value{value("n", 2)}, "t"}, {cases, "ar", []Value{value("n", 103)}, "f"}, {cases, "ar", []Value{value("n", 11)}, "m"}, {cases, "ar", []Value{value("n", 100)}, "x"}, {cases, "de", []Value{value("n", 0)}, "x"}, {cases, "ru", []Value{value("n", greatest)}, "m"}, {cases, "ru", []Value{value("n", 22)}, "f"}, {cases, "pl", []Value{value("n", 21)}, "m"}, {cases, "cs", []Value{value("n", 4)}, "f"}, {cases, "lt", []Value{value("n", 10)}, "x"}, {cases, "ja", []Value{value("n", 1)}, "x"}, {cases, "pt-BR", []Value{value("n", 0)}, "o"},
		{"{n, plural, other{x} few{f}}", "ru", []Value{value("n", 1)}, "x"}, {"{n, plural, other{x} few{f}}", "ru", []Value{value("n", 2)}, "f"}, {"{n, plural, other{x} few{f}}", "ru", []Value{value("n", 5)}, "x"}, {"{n, plural, other{}}", "ru", []Value{value("n", 5)}, ""}, {"{n, plural, one{} other{x}}", "de", []Value{value("n", 1)}, ""},
		{"#{n, plural, other{#}}#", "de", []Value{value("n", 5)}, "#5#"}, {"{n,plural,other{#{m,plural,other{#}}#}}", "de", []Value{value("n", 5), value("m", 6)}, "565"}, {"{n,plural,one{{m,plural,one{#}other{##}}}other{}}", "de", []Value{value("n", 1), value("m", 2)}, "22"}, {"{n,plural,other{{m,select,a{#}other{-#}}#}}", "de", []Value{value("n", 5), {raw("m"), 6, "a"}}, "55"}, {"{n,plural,other{{m,select,a{#}other{-#}}}}", "de", []Value{value("n", 5), {raw("m"), 6, "b"}}, "-5"}, {"{m,select,other{#{n,plural,other{#}}}}", "de", []Value{value("n", 5), value("m", 6)}, "#5"}, {"{n,plural,other{{n}#{n,number}}}", "de", []Value{{raw("n"), 5, "five"}}, "five55"}, {"{a,plural,other{{b,plural,other{#{c,number}}}#}}", "de", []Value{value("a", 1), value("b", 2), value("c", 3)}, "231"},
		// selects
		{"{w, select, f{F} m{M} other{X}}", "de", []Value{worded("w", "f")}, "F"}, {"{w, select, f{F} m{M} other{X}}", "de", []Value{worded("w", "m")}, "M"}, {"{w, select, f{F} m{M} other{X}}", "de", []Value{worded("w", "other")}, "X"}, {"{w, select, f{F} m{M} other{X}}", "de", []Value{worded("w", "n")}, "X"}, {"{w, select, f{F} m{M} other{X}}", "de", []Value{worded("w", "")}, "X"}, {"{w, select, f{F} m{M} other{X}}", "de", []Value{worded("w", "F")}, "X"}, {"{w, select, f{F} m{M} other{X}}", "de", []Value{worded("w", "f ")}, "X"}, {"{w, select, f{F} m{M} other{X}}", "de", []Value{worded("w", "f,m")}, "X"}, {"{w, select, other{X} f{F}}", "de", []Value{value("w", 1)}, "X"}, {"{w, select, one{O} other{X}}", "de", []Value{value("w", 1)}, "X"}, {"{w, select, one{O} other{X}}", "ja", []Value{worded("w", "one")}, "O"}, {"{w, select, f{} other{X}}", "de", []Value{worded("w", "f")}, ""}, {"{w,select,a{{w,select,a{1}other{2}}}other{{w}}}", "de", []Value{worded("w", "a")}, "1"}, {"{w,select,a{{w,select,a{1}other{2}}}other{{w}}}", "de", []Value{worded("w", "b")}, "b"},
		// what isn't met needs no value
		{"{n,plural,one{{m}}other{}}", "de", []Value{value("n", 2)}, ""}, {"{w,select,a{{m,number}}other{x}}", "de", []Value{worded("w", "b")}, "x"}, {"{w,select,a{x}other{{m,plural,other{}}}}", "de", []Value{worded("w", "a")}, "x"}, {"{w,select,a{x}b{{k,select,other{}}}other{{m}}}", "de", []Value{worded("w", "a")}, "x"},
	} {
		checkRender(t, parse(t, x.s), parseTag(t, x.tag), x.values, x.want, api.OK)
	}
}

// P8.3: names without a value, wherever they are met.
func TestRenderNone(t *testing.T) {
	for _, x := range []struct {
		s      string
		values []Value
	}{
		{"{n}", nil}, {"{n, number}", nil}, {"{n, plural, other{}}", nil}, {"{n, plural, other{a}}", nil}, {"{n, select, other{}}", nil}, {"a{n}", []Value{value("m", 1)}}, {"{n}{m}", []Value{value("n", 1)}}, {"{m}{n}", []Value{value("n", 1)}}, {"{n}{m, number}b", []Value{worded("n", "m")}}, {"{n}", []Value{{}, value("nn", 1), value("N", 1), value("n\x00n", 1)}}, {"{abcdefghijkl}", []Value{value("abcdefghijk", 1)}},
		{"{n,plural,one{{m}}other{}}", []Value{value("n", 1)}}, {"{n,plural,one{}other{#{m,number}}}", []Value{value("n", 5)}}, {"{w,select,a{{m,plural,other{}}}other{}}", []Value{worded("w", "a")}}, {"{w,select,a{}other{{m,select,other{}}}}", []Value{worded("w", "b")}}, {"{n,plural,other{{w,select,other{{m}}}}}", []Value{value("n", 1), value("w", 1)}}, {"{n,plural,other{{w,select,other{}}}}", []Value{value("n", 1)}}, {"{n,plural,other{}}{m}", []Value{value("n", 1)}}, {"{w,select,other{}}{m,select,other{}}", []Value{value("w", 1)}}, {"{w,select,other{{m}}}{w}", []Value{value("w", 1)}},
	} {
		checkRender(t, parse(t, x.s), parseTag(t, "de"), x.values, "", api.ErrNone)
	}
	checkRender(t, parts(sign(), arg("n")), parseTag(t, "de"), nil, "", api.ErrForm)
	checkRender(t, parts(text(strings.Repeat("a", 60)), arg("n")), parseTag(t, "de"), nil, "", api.ErrLong)
}

// P8.3: tags that aren't right count as root.
func TestRenderTags(t *testing.T) {
	l := parse(t, "{n, plural, one{o} few{f} many{m} other{x}}")
	for _, x := range []tag.Tag{{}, {Lang: [3]byte{'R', 'U'}}, {Lang: [3]byte{'r', 'u'}, Region: [3]byte{'r', 'u'}}, {Lang: [3]byte{'r', 'u'}, Script: [4]byte{'l', 'a', 't', 'n'}}, {Lang: [3]byte{'r'}}, {Region: [3]byte{'R', 'U'}}, {Lang: [3]byte{'r', 'u', 255}}} {
		for n, want := range map[uint64]string{0: "x", 1: "o", 2: "x", 5: "x", 21: "x", greatest: "x"} {
			checkRender(t, l, x, []Value{value("n", n)}, want, api.OK)
		}
	}
	for n, want := range map[uint64]string{0: "m", 1: "o", 2: "f", 5: "m", 21: "o", 22: "f", greatest: "m"} {
		checkRender(t, l, parseTag(t, "ru"), []Value{value("n", n)}, want, api.OK)
		checkRender(t, l, parseTag(t, "uk-Cyrl-UA"), []Value{value("n", n)}, want, api.OK)
	}
}

// taken is the case that a choice's value asks for.
func taken(n Node, x tag.Tag, v Value) Case {
	word := v.Text
	if n.Kind == Plural {
		word = [...]string{"zero", "one", "two", "few", "many", "other"}[plural.Of(x, v.N)]
	}
	at := slices.IndexFunc(n.Cases, func(c Case) bool { return c.Word == word })
	if at < 0 {
		at = slices.IndexFunc(n.Cases, func(c Case) bool { return c.Word == "other" })
	}
	return n.Cases[at]
}

// flat makes of a message one without choices and signs, as its values ask for; the names that are met are told.
func flat(l []Node, x tag.Tag, values map[name.Name]Value, sign string) ([]Node, []name.Name) {
	var out []Node
	var met []name.Name
	for _, n := range l {
		v := values[n.Name]
		if n.Kind != Text && n.Kind != Sign {
			met = append(met, n.Name)
		}
		switch n.Kind {
		case Sign:
			n = text(sign)
		case Plural, Select:
			within := sign
			if n.Kind == Plural {
				within = strconv.FormatUint(v.N, 10)
			}
			kids, more := flat(taken(n, x, v).Kids, x, values, within)
			out, met = append(out, kids...), append(met, more...)
			continue
		}
		out = append(out, n)
	}
	return out, met
}

// P8.3: rows of parts with values, some of which lack.
func TestRenderSome(t *testing.T) {
	c := chance(5)
	told := map[api.Errno]int{}
	for range 20000 {
		l := c.some(0, false)
		if len(written(l)) > 60 {
			continue
		}
		x := parseTag(t, c.pick("root", "de", "ru", "ar-EG", "pl", "lt", "fr", "ja", "cs"))
		var values []Value
		held := map[name.Name]Value{}
		lacks := c.below(8) // of some rows values lack
		for _, n := range append(someNames(), someNames()...) {
			if lacks > 0 || c.below(2) == 0 {
				v := Value{Name: raw(n), N: uint64(c.below(130)), Text: c.pick("", "", "n", "one", "other", "w", "{n}")}
				values = append(values, v)
				held[v.Name] = v
			}
		}
		rest, met := flat(l, x, held, "?")
		want, wantErr := "", api.OK
		for _, n := range met {
			if _, ok := held[n]; !ok {
				wantErr = api.ErrNone
			}
		}
		for _, n := range rest {
			switch v := held[n.Name]; {
			case wantErr != api.OK:
			case n.Kind == Text:
				want += n.Text
			case n.Kind == Arg && v.Text != "":
				want += v.Text
			default:
				want += strconv.FormatUint(v.N, 10)
			}
		}
		checkRender(t, l, x, values, want, wantErr)
		told[wantErr]++
	}
	if told[api.OK] < 5000 || told[api.ErrNone] < 200 {
		t.Error(told)
	}
}

// P8.3: many values, and a long text, in each place.
func TestRenderGreat(t *testing.T) {
	long := strings.Repeat("{x}", 1<<12)
	var values []Value
	for range 1 << 12 {
		values = append(values, worded("n", "x"), Value{})
	}
	checkRender(t, parse(t, strings.Repeat("{n}", 20)), tag.Tag{}, append(values, worded("n", long)), strings.Repeat(long, 20), api.OK)
}
