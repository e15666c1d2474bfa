package skeleton

import (
	"slices"
	"strings"
	"testing"

	"vulgate/api"
)

// checkUses holds how names are used against what it must be, and parts handed in against what they were.
func checkUses(t *testing.T, l []Node, want []Use) {
	t.Helper()
	was := show(l)
	if got := Uses(l); !slices.Equal(got, want) {
		t.Errorf("Uses(%s) is %v, not %v", was, got, want)
	}
	if show(l) != was {
		t.Errorf("Uses(%s) made of it %s", was, show(l))
	}
}

// P8.2: signatures, at any depth, of several uses, with the words of several selects.
func TestUses(t *testing.T) {
	for _, x := range []struct {
		s    string
		want []Use
	}{
		{"", nil}, {"a # b", nil}, {"{n}", []Use{{raw("n"), 1, ""}}}, {"{n, number}", []Use{{raw("n"), 2, ""}}}, {"{n, plural, other{}}", []Use{{raw("n"), 2, ""}}}, {"{n, plural, one{#} other{#}}", []Use{{raw("n"), 2, ""}}}, {"{n, select, other{}}", []Use{{raw("n"), 4, "other"}}},
		{"{n}{n}{n}", []Use{{raw("n"), 1, ""}}}, {"{n}{n, number}", []Use{{raw("n"), 3, ""}}}, {"{n, number}{n}", []Use{{raw("n"), 3, ""}}}, {"{n, plural, other{}}{n}", []Use{{raw("n"), 3, ""}}}, {"{n, number}{n, plural, other{}}", []Use{{raw("n"), 2, ""}}}, {"{n}{n, select, other{}}", []Use{{raw("n"), 5, "other"}}}, {"{n, select, other{}}{n, number}", []Use{{raw("n"), 6, "other"}}}, {"{n,select,other{}}{n,plural,other{}}{n}", []Use{{raw("n"), 7, "other"}}},
		{"{b}{a}{ab}{a.}{a-}{a0}{c}{aa}", []Use{{raw("a"), 1, ""}, {raw("a-"), 1, ""}, {raw("a."), 1, ""}, {raw("a0"), 1, ""}, {raw("aa"), 1, ""}, {raw("ab"), 1, ""}, {raw("b"), 1, ""}, {raw("c"), 1, ""}}},
		{"{n, select, z{} other{} b{} a{}}", []Use{{raw("n"), 4, "a,b,other,z"}}}, {"{n, select, a0{} a{} a_{} other{} a.{} a-{} aa{}}", []Use{{raw("n"), 4, "a,a-,a.,a0,a_,aa,other"}}},
		{"{n,select,b{}other{}}{n,select,a{}other{}}", []Use{{raw("n"), 4, "a,b,other"}}}, {"{n,select,a{{n,select,b{}other{}}}other{}}", []Use{{raw("n"), 4, "a,b,other"}}}, {"{n,select,b{}other{}}{m,select,a{}other{}}", []Use{{raw("m"), 4, "a,other"}, {raw("n"), 4, "b,other"}}}, {"{n,select,a{}other{}}{n,select,other{}a{}}", []Use{{raw("n"), 4, "a,other"}}},
		{"{n, plural, one{# {w}} other{{w, select, f{# F} other{#}}}}", []Use{{raw("n"), 2, ""}, {raw("w"), 5, "f,other"}}}, {"{w, select, other{{n, plural, other{{m}#}}} f{{n}}}", []Use{{raw("m"), 1, ""}, {raw("n"), 3, ""}, {raw("w"), 4, "f,other"}}},
		{"{c,select,x{{b}}other{{a,number}}}", []Use{{raw("a"), 2, ""}, {raw("b"), 1, ""}, {raw("c"), 4, "other,x"}}}, {"{other}{x,select,x{{x}}other{}}", []Use{{raw("other"), 1, ""}, {raw("x"), 5, "other,x"}}}, {"{abcdefghijkl, select, abcdefghijkl{} other{}}", []Use{{raw("abcdefghijkl"), 4, "abcdefghijkl,other"}}},
		{"{a, plural, other{{b, select, other{{c, plural, other{}}}}}}", []Use{{raw("a"), 2, ""}, {raw("b"), 4, "other"}, {raw("c"), 2, ""}}},
	} {
		checkUses(t, parse(t, x.s), x.want)
	}
}

// modelUses puts what is used into tables: by names, and by names and words.
func modelUses(l []Node, how map[string]uint8, words map[string][]string) {
	for _, n := range l {
		from, _, _ := strings.Cut(string(n.Name[:]), "\x00")
		bit := [...]uint8{Arg: 1, Number: 2, Plural: 2, Select: 4, Sign: 0}[n.Kind]
		if bit > 0 {
			how[from] |= bit
		}
		for _, c := range n.Cases {
			if bit == 4 && !slices.Contains(words[from], c.Word) {
				words[from] = append(words[from], c.Word)
			}
			modelUses(c.Kids, how, words)
		}
	}
}

// P8.2: the signatures of rows of parts, by the chapter's words; nothing, if Print tells an error.
func TestUsesSome(t *testing.T) {
	c := chance(3)
	for range 20000 {
		l := c.some(0, false)
		var want []Use
		if _, err := Print(l); err == api.OK {
			how, words := map[string]uint8{}, map[string][]string{}
			modelUses(l, how, words)
			for n := range how {
				slices.Sort(words[n])
				want = append(want, Use{raw(n), how[n], strings.Join(words[n], ",")})
			}
			slices.SortFunc(want, func(a, b Use) int { return strings.Compare(string(a.Name[:]), string(b.Name[:])) })
		}
		checkUses(t, l, want)
	}
}

// P8.2: signatures are new memory.
func TestUsesNewMemory(t *testing.T) {
	l := parse(t, "{n}{w, select, f{} other{{n}}}")
	want := []Use{{raw("n"), 1, ""}, {raw("w"), 4, "f,other"}}
	first, second := Uses(l), Uses(l)
	first[0] = Use{}
	_ = append(first[:1], Use{})
	l[1].Cases[0].Word = "g"
	if !slices.Equal(second, want) {
		t.Errorf("the second is %v", second)
	}
	checkUses(t, l, []Use{{raw("n"), 1, ""}, {raw("w"), 4, "g,other"}})
}
