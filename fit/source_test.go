package fit

import (
	"slices"
	"strings"
	"testing"

	"vulgate/api"
)

// checkSource holds whether a source fits by itself against what it must be; its error comes ahead of all that a translation has.
func checkSource(t *testing.T, s string, want api.Errno) {
	t.Helper()
	if err := Source(s); err != want {
		t.Errorf("Source(%q) is %d, not %d", s, err, want)
	}
	if want == api.OK {
		return
	}
	for _, lang := range []string{"de", "ru", "ja", "ar", "root"} {
		g := parseTag(t, lang)
		for _, target := range []string{s, "", "x", "{n}", "{n", "}", "{1}", "{n,date}", "{n,plural,other{}other{}}", "{n,plural,one{}}", "{n,plural,few{}other{}}", strings.Repeat("a", 61), "{a,select,other{{b,select,other{{c,select,other{{d,select,"} {
			checkError(t, s, target, g, want)
		}
	}
}

// P9.1: sources that fit by themselves.
func TestSource(t *testing.T) {
	for _, s := range []string{
		"", " ", "x", "a # b", "#", "\x80\xff", "{n}", "{n} of {m}", "{n, number}", "{n,number}{n}", "{n, plural, other{}}", "{n, plural, one{} other{}}", "{n,plural,other{#}one{a}}", "{n,  plural,  one{a}   other{b}  }",
		"{w, select, other{}}", "{w, select, f{} m{} other{}}", "{w, select, zero{} one{} two{} few{} many{} other{}}", "{w,select,few{}other{}}{n,plural,one{}other{}}", "{n,plural,one{{w,select,many{}other{}}}other{}}", "{w,select,two{{n,plural,other{}}}other{}}",
		"{few}{many}{two}{zero}", "{few, plural, other{}}", "{zero,select,other{}}", "few{n}", "{n}{n,number}{n,plural,other{}}{n,select,other{}}", "{a,plural,other{{b,plural,other{{c,plural,other{}}}}}}", "{a,plural,other{{b,plural,one{}other{#}}}}",
	} {
		checkSource(t, s, api.OK)
	}
}

// nested puts a text behind, ahead of and within others: into choices of each kind, at each depth. Those whose canonical text is too long are left out.
func nested(s string) []string {
	l := []string{s, "x{m}" + s, s + "{m}"}
	for _, kind := range []string{"select", "plural"} {
		once := "{a," + kind + ",other{" + s + "}}"
		l = append(l, once, "x"+once, "{a,"+kind+",one{"+s+"}other{}}", "{a,"+kind+",one{}other{"+s+"}}")
		for _, outer := range []string{"select", "plural"} {
			l = append(l, "{b,"+outer+",other{"+once+"}}")
		}
	}
	return slices.DeleteFunc(l, func(s string) bool { return modelError(s, all) == api.ErrLong })
}

// P9.1: plurals of a source with each set of categories, at any depth: but for one and other none may stand.
func TestSourceCategories(t *testing.T) {
	words := strings.Fields(all)
	for set := range 1 << 5 { // other stands in each choice
		cases, want := "", api.OK
		for i, word := range words[:5] {
			if set>>i&1 == 1 {
				cases += word + "{}"
				if word != "one" {
					want = api.ErrSkel
				}
			}
		}
		for _, cases := range []string{cases + "other{}", "other{}" + cases} {
			checkSource(t, "{n,plural,"+cases+"}", want)
		}
	}
	for _, word := range words {
		want := api.OK
		if word != "one" && word != "other" {
			want = api.ErrSkel
		}
		inner := "{n,plural," + word + "{}other{}}"
		if word == "other" {
			inner = "{n,plural,other{}}"
		}
		texts := nested(inner)
		if len(texts) < 11 {
			t.Errorf("%q stands in %d texts", inner, len(texts))
		}
		for _, s := range texts {
			checkSource(t, s, want)
		}
		checkSource(t, "{n,plural,other{}}"+inner, want)
		checkSource(t, inner+"{n,plural,other{}}", want)
	}
	checkSource(t, "{n,plural,other{{n,plural,other{{n,plural,two{}other{}}}}}}", api.ErrLong)
	checkSource(t, "{n,plural,other{{m,plural,few{}other{}}}}", api.ErrSkel)
	checkSource(t, "{n,plural,one{{m,plural,few{}other{}}}other{}}", api.ErrSkel)
	checkSource(t, "{w, select, other{{n, plural, two{} other{}}}}", api.ErrSkel)
	checkSource(t, "{w,select,f{{n,plural,two{}other{}}}other{}}", api.ErrSkel)
	checkSource(t, "{n,plural,few{{w,select,f{}other{}}}other{}}", api.ErrSkel)
	checkSource(t, "{n,plural,few{}other{}}{m,plural,many{}other{}}", api.ErrSkel)
}

// wrongTexts are texts that are no messages, or whose canonical text is too long, by their errors.
func wrongTexts() map[string]api.Errno {
	l := map[string]api.Errno{
		"}": api.ErrForm, "a}": api.ErrForm, "{": api.ErrForm, "{n": api.ErrForm, "{}": api.ErrForm, "{N}": api.ErrForm, "{n,}": api.ErrForm, "{n, plural}": api.ErrForm, "\n": api.ErrForm, "\x00": api.ErrForm, "a\x7f": api.ErrForm, "{n, plural, few{} other{}}}": api.ErrForm, "{n, plural, few{} other{": api.ErrForm,
		"{1}": api.ErrName, "{abcdefghijklm}": api.ErrName, "{n,plural,some{}}": api.ErrName, "{n,plural,few{}some{}}": api.ErrName, "{n,select,1{}}": api.ErrName,
		"{n,date}": api.ErrKind, "{n, plurals, few{} other{}}": api.ErrKind,
		"{a,select,other{{b,select,other{{c,select,other{{d,select,": api.ErrDeep, "{a,plural,few{{b,plural,other{{c,plural,other{{d,plural": api.ErrDeep,
		"{n,plural,one{}one{}other{}}": api.ErrTwice, "{n,plural,few{}few{}other{}}": api.ErrTwice, "{n,select,a{}a{}other{}}": api.ErrTwice,
		"{n,plural,one{}}": api.ErrSkel, "{n,plural,}": api.ErrSkel, "{n,select,a{}}": api.ErrSkel, "{n,plural,few{}}": api.ErrSkel,
		strings.Repeat("a", 61): api.ErrLong, strings.Repeat("}", 61): api.ErrLong, strings.Repeat("{n}", 21): api.ErrLong, "{n,plural,few{}other{}}" + strings.Repeat("a", 38): api.ErrLong, "{n," + strings.Repeat(" ", 51) + "number}": api.ErrLong, strings.Repeat("{", 1<<16): api.ErrLong,
	}
	for _, s := range []string{strings.Repeat("{a,number}", 6), "{n,number}" + strings.Repeat("a", 50), "{n,plural,other{}}" + strings.Repeat("a", 42), "{n,plural,few{}other{}}" + strings.Repeat("a", 37), "{n,plural,few{}other{}}" + strings.Repeat("a", 35), "{a,select,other{{b,select,other{{c,select,other{x}}}}}}"} {
		l[s] = api.ErrLong // it is read, but printed it is longer than it is, and than it may be
	}
	return l
}

// P9.1: each error of a source.
func TestSourceWrong(t *testing.T) {
	met := map[api.Errno]int{}
	for s, err := range wrongTexts() {
		checkSource(t, s, err)
		met[err]++
	}
	for _, err := range []api.Errno{api.ErrLong, api.ErrForm, api.ErrName, api.ErrKind, api.ErrDeep, api.ErrTwice, api.ErrSkel} {
		if met[err] == 0 {
			t.Errorf("no text has the error %d", err)
		}
	}
}

// P9.1: sources of 60 bytes and of 61, as they are and printed.
func TestSourceLong(t *testing.T) {
	for _, begin := range []string{"", "{n}", "{n, number}", "{n, plural, other{}}", "{n, plural, one{#} other{#}}", "{w, select, f{} other{}}", "#", "\xff"} {
		s := begin + strings.Repeat("a", 60-len(begin))
		checkSource(t, s, api.OK)
		checkSource(t, s+"a", api.ErrLong)
		checkSource(t, s[:59], api.OK)
	}
	for _, x := range []struct {
		s    string
		more int // how many bytes it has more, when it is printed
	}{{"{n,number}", 1}, {"{n,plural,other{}}", 2}, {"{n,plural,one{}other{}}", 3}, {"{n,select,a{}b{}other{}}", 4}} {
		for size := 60 - x.more - 1; size <= 60; size++ {
			want := api.OK
			if size+x.more > 60 {
				want = api.ErrLong
			}
			checkSource(t, x.s+strings.Repeat("a", size-len(x.s)), want)
		}
	}
	checkSource(t, "{n,"+strings.Repeat(" ", 50)+"number}", api.OK) // it is shorter, when it is printed
	checkSource(t, "{n,plural,"+strings.Repeat(" ", 35)+"few{}other{} }", api.ErrSkel)
	checkSource(t, "{n, plural, few{} other{}}"+strings.Repeat("a", 34), api.ErrSkel)
	checkSource(t, "{n, plural, few{} other{}}"+strings.Repeat("a", 35), api.ErrLong)
}

// P9.1: each text that differs in one byte from some that fit, by the chapter's words.
func TestSourceChanged(t *testing.T) {
	for _, s := range []string{"a{n}", "{n, plural, one{a} other{#}}", "{w, select, f{{n, plural, other{}}} other{}}"} {
		for i := range len(s) {
			for c := range 256 {
				x := s[:i] + string([]byte{byte(c)}) + s[i+1:]
				if err, want := Source(x), modelError(x, plain); err != want {
					t.Errorf("Source(%q) is %d, not %d", x, err, want)
				}
			}
			if err, want := Source(s[:i]), modelError(s[:i], plain); err != want {
				t.Errorf("Source(%q) is %d, not %d", s[:i], err, want)
			}
		}
	}
}

// P1, P9.1: texts of any length end, and are refused.
func TestSourceGreat(t *testing.T) {
	for _, s := range []string{strings.Repeat("{a,select,other{", 1<<16), strings.Repeat("a", 1<<22), strings.Repeat("{n}", 1<<18)} {
		checkError(t, s, s, parseTag(t, "ru"), api.ErrLong)
		checkError(t, "", s, parseTag(t, "ru"), api.ErrLong)
		if err := Source(s); err != api.ErrLong {
			t.Errorf("%d bytes are %d", len(s), err)
		}
	}
}

// P9.3: a source fits itself in all languages whose set has one; in others, if none of its plurals has one.
func TestSourceFitsItself(t *testing.T) {
	sources := []string{"", "x", "{n}", "{n}{m}", "{n, number}", "{n, plural, other{}}", "{n, plural, one{} other{}}", "{w, select, f{} other{}}", "{w,select,one{{n,plural,one{}other{}}}other{}}", "{n,plural,one{{w,select,f{}other{}}}other{}}", "{n}{n,number}{n,plural,other{}}{n,select,other{}}", "{n,plural,other{{n,plural,one{}other{}}}}{n}"}
	var c chance
	for range 300 {
		if s := c.some(0, []string{"one", "other"}); modelError(s, plain) == api.OK {
			sources = append(sources, s)
		}
	}
	if len(sources) < 150 {
		t.Fatalf("%d sources", len(sources))
	}
	for g, set := range tags(t) {
		hasOne := slices.Contains(strings.Fields(set), "one")
		for _, s := range sources {
			if hasOne || !strings.Contains(s, "plural,one{") && !strings.Contains(s, "plural, one{") {
				checkFlaws(t, s, s, g, "")
				continue
			}
			l, err := Flaws(s, s, g)
			if len(l) == 0 || err != api.OK || slices.ContainsFunc(l, func(f Flaw) bool { return f.Why != Category }) {
				t.Errorf("Flaws(%q, itself, %q) is %q, %d", s, g.Text(), show(l), err)
			}
		}
	}
}
