package fit

import (
	"slices"
	"strconv"
	"strings"
	"testing"

	"vulgate/api"
	"vulgate/name"
)

// P9.1: each flaw by itself, and none.
func TestFlaws(t *testing.T) {
	de, ru, ja := parseTag(t, "de"), parseTag(t, "ru"), parseTag(t, "ja")
	for _, x := range []struct{ source, target, inDe, inRu, inJa string }{
		{"", "", "", "", ""}, {"", "x", "", "", ""}, {"x", "", "", "", ""}, {"x", "#", "", "", ""}, {"{n}", "{n}", "", "", ""}, {"{n} a", "b {n}{n}", "", "", ""}, {"{n}{m}", "{m} of {n}", "", "", ""},
		{"{n} of {m}", "{m}", "n1", "n1", "n1"}, {"{n}", "", "n1", "n1", "n1"}, {"{n}{n}", "n", "n1", "n1", "n1"}, {"", "{n}", "n2", "n2", "n2"}, {"n", "{n, number}", "n2", "n2", "n2"}, {"{n}", "{m}", "m2 n1", "m2 n1", "m2 n1"}, {"{m}", "{n}", "m1 n2", "m1 n2", "m1 n2"}, {"{n}", "{n}{n.}", "n.2", "n.2", "n.2"}, {"{n}", "{n0}", "n1 n02", "n1 n02", "n1 n02"}, {"{abcdefghijkl}", "{abcdefghijkm}", "abcdefghijkl1 abcdefghijkm2", "abcdefghijkl1 abcdefghijkm2", "abcdefghijkl1 abcdefghijkm2"},
		{"{n}", "{n, number}", "n3", "n3", "n3"}, {"{n, number}", "{n}", "n3", "n3", "n3"}, {"{n}", "{n, plural, other{}}", "n3", "n3", "n3"}, {"{n}", "{n, plural, other{{n}}}", "n3", "n3", "n3"}, {"{n}", "{n, select, other{}}", "n3", "n3", "n3"}, {"{n, select, f{} other{}}", "{n}", "n3", "n3", "n3"}, {"{n, number}", "{n, select, other{}}", "n3", "n3", "n3"}, {"{n, select, other{}}", "{n, plural, other{}}", "n3", "n3", "n3"},
		{"{n, number}", "{n, plural, other{#}}", "", "", ""}, {"{n, plural, other{#}}", "{n, number}", "", "", ""}, {"{n, plural, one{} other{}}", "{n, number}", "", "", ""}, {"{n, number}", "{n, plural, one{} other{}}", "", "", "n5"}, {"{n, number}", "{n}{n, number}", "", "", ""}, {"{n}{n, number}", "{n, plural, other{}}", "", "", ""}, {"{n, select, other{}}", "{n}{n, select, other{{n}}}", "", "", ""},
		{"{n, select, f{} other{}}", "{n, select, m{} other{}}", "n4", "n4", "n4"}, {"{n, select, f{} other{}}", "{n, select, other{} f{}}", "", "", ""},
		{"{n, plural, one{a} other{b}}", "{n, plural, few{a} other{b}}", "n5", "", "n5"}, {"{n, plural, one{a} other{b}}", "{n, plural, one{a} other{b}}", "", "", "n5"}, {"{n, plural, one{a} other{b}}", "{n, plural, other{b}}", "", "", ""}, {"{n, plural, other{b}}", "{n, plural, many{} other{b}}", "n5", "", "n5"}, {"{n, plural, other{b}}", "{n, plural, zero{} other{b}}", "n5", "n5", "n5"}, {"{n, number}", "{n, plural, two{} other{}}", "n5", "n5", "n5"},
	} {
		checkFlaws(t, x.source, x.target, de, x.inDe)
		checkFlaws(t, x.source, x.target, ru, x.inRu)
		checkFlaws(t, x.source, x.target, ja, x.inJa)
	}
}

// P9.1: the numbers of flaws are the chapter's.
func TestFlawsNumbers(t *testing.T) {
	if Missing != 1 || Extra != 2 || Kind != 3 || Words != 4 || Category != 5 {
		t.Error("the numbers are others")
	}
	l, err := Flaws("{n}", "{m}", parseTag(t, "de"))
	if !slices.Equal(l, []Flaw{{Name: name.Name{'m'}, Why: 2}, {Name: name.Name{'n'}, Why: 1}}) || err != api.OK {
		t.Errorf("%v, %d", l, err)
	}
}

// uses are texts that use n in ways told by bits: 1 as a value, 2 as a number or of a plural, 4 of a select; all that fits, in several orders, beside and within each other.
func uses(ways int) []string {
	var l []string
	for _, number := range []string{"{n, number}", "{n, plural, other{}}", "{n,number}{n,plural,other{}}"} {
		pieces := []string{}
		for i, piece := range []string{"{n}", number, "{n, select, other{}}"} {
			if ways>>i&1 == 1 {
				pieces = append(pieces, piece)
			}
		}
		l = append(l, strings.Join(pieces, ""))
		slices.Reverse(pieces)
		l = append(l, strings.Join(pieces, ""))
	}
	switch ways {
	case 1:
		l = append(l, "{n}{n}", "a{n}b")
	case 3:
		l = append(l, "{n, plural, other{{n}}}", "{n, plural, other{{n}{n, number}}}")
	case 5:
		l = append(l, "{n, select, other{{n}}}")
	case 6:
		l = append(l, "{n,plural,other{{n,select,other{}}}}", "{n,select,other{{n,plural,other{}}}}", "{n, select, other{{n, number}}}")
	case 7:
		l = append(l, "{n,plural,other{{n,select,other{{n}}}}}", "{n,select,other{{n}{n,number}}}")
	}
	return slices.Compact(l)
}

// P9.1: a name that is used in one, two or three ways, or in none, in the one and in the other text.
func TestFlawsWays(t *testing.T) {
	langs := []string{"de", "ja", "ar"}
	for ways := range 8 {
		for others := range 8 {
			want := ""
			switch {
			case ways > 0 && others == 0:
				want = "n1"
			case ways == 0 && others > 0:
				want = "n2"
			case ways&6 != others&6:
				want = "n3"
			}
			for _, source := range uses(ways) {
				for _, target := range uses(others) {
					for _, lang := range langs {
						checkFlaws(t, source, target, parseTag(t, lang), want)
					}
				}
			}
		}
	}
}

// P9.1: plurals of a translation with each set of categories, in languages of each rule, in root, and in tags that aren't right.
func TestFlawsCategories(t *testing.T) {
	words := strings.Fields(all)
	for g, set := range tags(t) {
		for some := range 1 << 5 { // other stands in each choice
			cases, want := "", ""
			for i, word := range words[:5] {
				if some>>i&1 == 1 {
					cases += word + "{}"
					if !slices.Contains(strings.Fields(set), word) {
						want = "n5"
					}
				}
			}
			for _, source := range []string{"{n, number}", "{n, plural, one{} other{}}"} {
				checkFlaws(t, source, "{n,plural,"+cases+"other{}}", g, want)
				checkFlaws(t, source, "{n,plural,other{}"+cases+"}", g, want)
			}
		}
		for _, word := range words[:5] {
			want := "n5"
			if slices.Contains(strings.Fields(set), word) {
				want = ""
			}
			stray := "{n,plural," + word + "{}other{}}"
			checkFlaws(t, "{w,select,other{{n,number}}}", "{w,select,other{"+stray+"}}", g, want)
			checkFlaws(t, "{w,select,f{}other{{n,number}}}", "{w,select,f{"+stray+"}other{}}", g, want)
			checkFlaws(t, "{n,number}{m,number}", "{m,plural,other{"+stray+"}}", g, want)
			checkFlaws(t, "{n,number}", "{n,plural,other{"+stray+"}}", g, want)
			checkFlaws(t, "{n,number}", "{n,plural,other{}}"+stray, g, want)
			checkFlaws(t, "{n,number}", stray+"{n,plural,other{}}", g, want)
			checkFlaws(t, "{w,select,"+word+"{}other{}}", "{w,select,other{}"+word+"{}}", g, "")
			checkFlaws(t, "{"+word+",number}", "{"+word+",plural,other{}}", g, "")
		}
	}
}

// P9.1: whose plural it is, of which a category isn't of the set: no other name has that flaw.
func TestFlawsCategoryOf(t *testing.T) {
	de := parseTag(t, "de")
	for _, x := range []struct{ source, target, want string }{
		{"{n,number}{m,number}", "{n,plural,few{{m,plural,other{}}}other{}}", "n5"}, {"{n,number}{m,number}", "{n,plural,other{{m,plural,few{}other{}}}}", "m5"}, {"{n,number}{m,number}", "{m,plural,few{}other{}}{n,plural,other{}}", "m5"}, {"{n,number}{m,number}", "{n,plural,few{}other{}}{m,plural,two{}other{}}", "m5 n5"}, {"{n,number}{m,number}", "{n,plural,few{{m,plural,two{}other{}}}other{}}", "m5 n5"},
		{"{n,number}{w}", "{n,plural,few{{w}}other{}}", "n5"}, {"{n,number}{w,select,other{}}", "{n,plural,two{{w,select,other{}}}other{}}", "n5"}, {"{n,number}{w,select,other{}}", "{w,select,other{{n,plural,two{}other{}}}}", "n5"}, {"{n,number}{w,select,few{}other{}}", "{n,plural,other{{w,select,few{}other{}}}}", ""},
		{"{n,number}{m,number}", "{n,number}{m,plural,few{}other{}}", "m5"}, {"{n,number}", "{n,plural,few{}other{}}{n,plural,few{}other{}}", "n5"},
		{"{n,number}{n,select,few{}other{}}", "{n,plural,other{}}{n,select,few{}other{}}", ""}, {"{n,number}{n,select,few{}other{}}", "{n,plural,few{}other{}}{n,select,few{}other{}}", "n5"},
	} {
		checkFlaws(t, x.source, x.target, de, x.want)
		checkFlaws(t, x.source, x.target, parseTag(t, "ar"), "")
	}
}

// P9.1: words of selects of one name: in another order, fewer, more, others, and in two selects of one text.
func TestFlawsWords(t *testing.T) {
	one, two := "{n,select,a{}b{}other{}}", "{n,select,a{}other{}}{n,select,b{}other{}}"
	same := []string{one, two, "{n, select, b{} a{} other{}}", "{n,select,other{}b{}a{}}", "{n,select,b{}other{}}{n,select,other{}a{}}", "{n,select,a{{n,select,b{}other{}}}other{}}", "{n,select,other{{n,select,other{}a{}b{}}}}", "{n,select,a{}b{}other{}}{n}", "{n,select,a{x}b{y}other{z}}", one + "{n,select,other{}}"}
	unlike := []string{"{n,select,other{}}", "{n,select,a{}other{}}", "{n,select,b{}other{}}", "{n,select,a{}b{}c{}other{}}", "{n,select,a{}c{}other{}}", "{n,select,c{}d{}other{}}", "{n,select,ab{}other{}}", "{n,select,a{}bb{}other{}}", "{n,select,a-b{}other{}}", "{n,select,a.b{}other{}}", "{n,select,a_{}b{}other{}}", "{n,select,a{}other{}}{n,select,c{}other{}}", "{n,select,a{}other{}}{n,select,a{}other{}}", "{n,select,a{{n,select,c{}other{}}}other{}}", "{n,select,b{}other{}}{n}"}
	for _, lang := range []string{"de", "ru", "ja"} {
		g := parseTag(t, lang)
		for _, a := range same {
			for _, b := range same {
				checkFlaws(t, a, b, g, "")
			}
			for _, b := range unlike {
				checkFlaws(t, a, b, g, "n4")
				checkFlaws(t, b, a, g, "n4")
			}
		}
		checkFlaws(t, "{n,select,a{}other{}}{m,select,b{}other{}}", "{m,select,b{}other{}}{n,select,a{}other{}}", g, "")
		checkFlaws(t, "{n,select,a{}other{}}{m,select,b{}other{}}", "{m,select,a{}other{}}{n,select,b{}other{}}", g, "m4 n4")
		checkFlaws(t, "{n,select,a{}other{}}{m,select,b{}other{}}", "{m,select,b{}other{}}{n,select,b{}other{}}", g, "n4")
	}
}

// P9.1: of a name to which several flaws apply the first counts.
func TestFlawsFirst(t *testing.T) {
	de := parseTag(t, "de")
	for _, x := range []struct{ source, target, want string }{
		{"{n,select,f{}other{}}", "", "n1"}, {"{n,select,f{}other{}}{n,number}", "x", "n1"}, {"{n,plural,one{}other{}}", "", "n1"},
		{"", "{n,plural,few{}other{}}", "n2"}, {"", "{n,select,f{}other{}}", "n2"}, {"", "{n,select,f{}other{}}{n,plural,few{}other{}}", "n2"},
		{"{n}", "{n,plural,few{}other{}}", "n3"}, {"{n,select,f{}other{}}", "{n,plural,few{}other{}}", "n3"}, {"{n,select,f{}other{}}{n,number}", "{n,select,m{}other{}}", "n3"}, {"{n,select,f{}other{}}", "{n,select,m{}other{}}{n,number}", "n3"}, {"{n,select,f{}other{}}", "{n,select,m{}other{}}{n,plural,few{}other{}}", "n3"}, {"{n,number}", "{n,select,m{}other{}}{n,plural,few{}other{}}", "n3"},
		{"{n,select,f{}other{}}{n,number}", "{n,select,m{}other{}}{n,plural,few{}other{}}", "n4"}, {"{n,select,f{}other{}}{n,number}", "{n,select,f{}other{}}{n,plural,few{}other{}}", "n5"},
	} {
		checkFlaws(t, x.source, x.target, de, x.want)
	}
	checkFlaws(t, "{n,plural,one{}other{}}", "", parseTag(t, "ja"), "n1")
	checkFlaws(t, "", "{n,plural,one{}other{}}", parseTag(t, "ja"), "n2")
	checkFlaws(t, "{n}", "{n,plural,one{}other{}}", parseTag(t, "ja"), "n3")
}

// P9.1: several flaws stand in the order of names, each name once.
func TestFlawsOrder(t *testing.T) {
	de := parseTag(t, "de")
	for _, x := range []struct{ source, target, want string }{
		{"{b}{a}", "{c}", "a1 b1 c2"}, {"{c}", "{b}{a}", "a2 b2 c1"}, {"{c}{a}{b}", "", "a1 b1 c1"}, {"", "{c}{a}{b}{a}{c}", "a2 b2 c2"}, {"{b}{b}{a}{a}{b}", "", "a1 b1"},
		{"{a}{c}{e}{g}", "{h}{f}{d}{b}", "a1 b2 c1 d2 e1 f2 g1 h2"}, {"{z}{a-}{a}{a0}{a.}{aa}{a_}{ab}", "", "a1 a-1 a.1 a01 a_1 aa1 ab1 z1"}, {"{z}{a-}{a.}{aa}", "{a}{a0}{a_}{ab}", "a2 a-1 a.1 a02 a_2 aa1 ab2 z1"},
		{"{a}{b}{c,number}{d,select,f{}other{}}", "{b,number}{c,plural,two{}other{}}{d,select,other{}}", "a1 b3 c5 d4"}, {"{d}{c}{b,number}{a,select,f{}other{}}", "{c,number}{b,plural,two{}other{}}{a,select,other{}}{e}", "a4 b5 c3 d1 e2"}, {"{a}{b}{c}", "{a}{b,number}{c}", "b3"},
		{"{n}", "{m}{n,plural,few{{n}{m}}other{{n}{m}}}", "m2 n3"},
	} {
		checkFlaws(t, x.source, x.target, de, x.want)
	}
	source, target, want := "", "", []string{}
	for c := byte('t'); c >= 'a'; c-- {
		source += "{" + string([]byte{c}) + "}"
	}
	for c := byte('A'); c <= 'T'; c++ { // ten are in both
		target += "{" + string([]byte{c + 'a' - 'A' + 6}) + "}"
	}
	for c := byte('a'); c <= 'z'; c++ {
		switch {
		case c < 'g':
			want = append(want, string([]byte{c})+strconv.Itoa(Missing))
		case c > 't':
			want = append(want, string([]byte{c})+strconv.Itoa(Extra))
		}
	}
	checkFlaws(t, source, target, de, strings.Join(want, " "))
}

// P9.1: the source's error comes ahead of the translation's, that one ahead of flaws; all pairs of wrong texts, and of wrong and right ones.
func TestFlawsWrong(t *testing.T) {
	right := []string{"", "x", "{n}", "{n, plural, one{} other{}}", "{n, select, f{} other{}}", strings.Repeat("a", 60)}
	sources := wrongTexts()
	sources["{n,plural,few{}other{}}"] = api.ErrSkel
	sources["{w,select,other{{n,plural,zero{}other{}}}}"] = api.ErrSkel
	for _, lang := range []string{"de", "ru", "ja"} {
		g := parseTag(t, lang)
		for source, err := range sources {
			for target := range sources {
				checkError(t, source, target, g, err)
			}
			for _, target := range right {
				checkError(t, source, target, g, err)
			}
		}
		for target, err := range wrongTexts() {
			for _, source := range right {
				checkError(t, source, target, g, err)
			}
		}
	}
	checkError(t, "{n, plural, few{} other{}}", "{n", parseTag(t, "ru"), api.ErrSkel)
	checkError(t, "{n, plural, few{} other{}}", "{n, plural, few{} other{}}", parseTag(t, "ru"), api.ErrSkel)
	checkError(t, "{n", "{n,plural,few{}}", parseTag(t, "ru"), api.ErrForm)
}

// P9.1: translations of 60 bytes and of 61, as they are and printed.
func TestFlawsLong(t *testing.T) {
	ar := parseTag(t, "ar")
	for _, x := range []struct {
		source, target string
		more           int // how many bytes it has more, when it is printed
	}{{"", "", 0}, {"{n}", "{n}", 0}, {"{n,number}", "{n,number}", 1}, {"{n,number}", "{n,plural,other{}}", 2}, {"{n,number}", "{n,plural,few{}other{}}", 3}, {"{n,plural,one{}other{}}", "{n,plural,zero{}one{}two{}other{}}", 5}, {"{n, number}", "{n, plural, other{}}", 0}} {
		for size := 60 - x.more - 1; size <= 61; size++ {
			target := x.target + strings.Repeat("a", size-len(x.target))
			if size+x.more > 60 {
				checkError(t, x.source, target, ar, api.ErrLong)
			} else {
				checkFlaws(t, x.source, target, ar, "")
			}
		}
	}
	full := "{n, plural, zero{} one{} two{} few{} many{} other{}}"
	checkFlaws(t, "{n,"+strings.Repeat(" ", 50)+"number}", full+strings.Repeat("a", 60-len(full)), ar, "")
	checkFlaws(t, strings.Repeat("{n}", 20), strings.Repeat("{m}", 20), ar, "m2 n1")
}

// P9.1, P9.3: pairs made of all pieces, and pairs made by chance, by the chapter's words; who fits uses the same names.
func TestFlawsSome(t *testing.T) {
	pieces := []string{"", "x", "{a}", "{n}", "{n,number}", "{n,plural,other{}}", "{n,plural,one{}other{}}", "{n,plural,few{}other{}}", "{n,select,other{}}", "{n,select,f{}other{}}", "{n,select,few{}other{}}", "{a,plural,many{{n}}other{}}", "{a,select,f{{n}}other{{n,number}}}", "{n,plural,two{{a,select,f{}other{}}}other{}}", "{a,select,f{{n,plural,two{}other{}}}other{}}"}
	var texts []string
	for _, a := range pieces {
		for _, b := range pieces {
			texts = append(texts, a+b)
		}
	}
	de, cs := parseTag(t, "de"), parseTag(t, "cs")
	for _, source := range texts {
		for _, target := range texts {
			checkModel(t, source, target, de, plain)
		}
	}
	var c chance
	flaws, fits := 0, 0
	for range 20000 {
		source, target := c.some(0, []string{"one", "other"}), c.some(0, strings.Fields(all))
		if many := checkModel(t, source, target, cs, "one few other"); many > 0 {
			flaws++
		} else if modelError(source, plain) == api.OK && modelError(target, all) == api.OK {
			fits++
		}
	}
	if flaws < 5000 || fits < 500 {
		t.Errorf("%d pairs have flaws, %d fit", flaws, fits)
	}
}

// P9.3: what one flaw tells stays, whatever other names are added to both.
func TestFlawsStay(t *testing.T) {
	added := []string{"{m}", "{o}", "{m,number}", "{o,number}", "{m,select,f{}other{}}", "{m,plural,two{}other{}}"}
	for _, x := range []struct{ source, target, want string }{
		{"{n}", "{n}", ""}, {"{n}", "", "n1"}, {"", "{n}", "n2"}, {"{n}", "{n,number}", "n3"}, {"{n,select,f{}other{}}", "{n,select,other{}}", "n4"}, {"{n,number}", "{n,plural,few{}other{}}", "n5"}, {"{n,number}", "{n,plural,other{}}", ""},
	} {
		for _, a := range added[:5] {
			for _, b := range added {
				for _, y := range [][2]string{{x.source + a, x.target + b}, {a + x.source, b + x.target}, {a + x.source, x.target + b}} {
					l, err := Flaws(y[0], y[1], parseTag(t, "en"))
					l = slices.DeleteFunc(l, func(f Flaw) bool { return f.Name != name.Name{'n'} })
					if show(l) != x.want || err != api.OK {
						t.Errorf("Flaws(%q, %q) of n is %q, %d, not %q", y[0], y[1], show(l), err, x.want)
					}
				}
			}
		}
	}
}

// P2, P9.1: the same calls have the same answers, whatever was done with those of earlier ones.
func TestFlawsAgain(t *testing.T) {
	de := parseTag(t, "de")
	want := "a1 b1 c2 d2"
	for range 50 {
		l, _ := Flaws("{b}{a}", "{d}{c}", de)
		if show(l) != want {
			t.Fatalf("%q", show(l))
		}
		more, _ := Flaws("{b}{a}", "{d}{c}", de)
		for i := range l {
			l[i] = Flaw{}
		}
		l = append(l, Flaw{Why: 1})
		if show(more) != want {
			t.Fatalf("two answers share memory: %q", show(more))
		}
	}
}
