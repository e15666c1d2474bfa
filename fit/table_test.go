package fit

import (
	"maps"
	"slices"
	"strings"
	"testing"

	"vulgate/name"
)

// checkTable holds a table against what it must be, and pairs handed in against what they were.
func checkTable(t *testing.T, lang string, pairs [][2]string, want map[Flaw]int) {
	t.Helper()
	was := slices.Clone(pairs)
	if m := Table(parseTag(t, lang), pairs...); !maps.Equal(m, want) {
		t.Errorf("Table(%s, %q) is %v, not %v", lang, was, m, want)
	}
	if !slices.Equal(pairs, was) {
		t.Errorf("Table(%s, %q) made of them %q", lang, was, pairs)
	}
}

// flaw is one of this name.
func flaw(n string, why int) Flaw {
	f := Flaw{Why: why}
	copy(f.Name[:], n)
	return f
}

// P9.2: no pairs, one, the same several times, pairs with an error among others, and the same flaw in several pairs.
func TestTable(t *testing.T) {
	missing, fits, wrong := [2]string{"{n}", ""}, [2]string{"{n}", "x{n}"}, [2]string{"{n", ""}
	for _, x := range []struct {
		pairs [][2]string
		want  map[Flaw]int
	}{
		{nil, nil}, {[][2]string{}, nil}, {[][2]string{{}}, nil}, {[][2]string{fits}, nil}, {[][2]string{fits, fits, {}}, nil}, {[][2]string{wrong}, nil}, {[][2]string{wrong, wrong, {"", "}"}}, nil},
		{[][2]string{missing}, map[Flaw]int{flaw("n", 1): 1}}, {[][2]string{missing, missing, missing}, map[Flaw]int{flaw("n", 1): 3}}, {[][2]string{missing, fits, missing, {}}, map[Flaw]int{flaw("n", 1): 2}},
		{[][2]string{wrong, missing}, map[Flaw]int{flaw("n", 1): 1}}, {[][2]string{missing, wrong}, map[Flaw]int{flaw("n", 1): 1}}, {[][2]string{missing, wrong, missing}, map[Flaw]int{flaw("n", 1): 2}}, {[][2]string{wrong, {"{n}", "}"}, missing, {"{n,plural,few{}other{}}", ""}, {"", strings.Repeat("a", 61)}, missing}, map[Flaw]int{flaw("n", 1): 2}},
		{[][2]string{{"{n}", ""}, {"{n}a", "b"}, {"{n", ""}, {"", "{n}"}}, map[Flaw]int{flaw("n", 1): 2, flaw("n", 2): 1}},
		{[][2]string{{"{n}", "{m}"}, {"{n}{m}", ""}, {"{n}", "{n,number}"}, {"{n,number}", "{n,plural,few{}other{}}"}, {"{n,select,a{}other{}}", "{n,select,other{}}"}, {"{m}{n}", "{m,number}"}}, map[Flaw]int{flaw("n", 1): 3, flaw("m", 2): 1, flaw("m", 1): 1, flaw("n", 3): 1, flaw("n", 4): 1, flaw("n", 5): 1, flaw("m", 3): 1}},
		{[][2]string{{"{n}{n}{n}", ""}}, map[Flaw]int{flaw("n", 1): 1}}, {[][2]string{{"{a}", "{a.}"}, {"{a.}", "{a}"}}, map[Flaw]int{flaw("a", 1): 1, flaw("a", 2): 1, flaw("a.", 1): 1, flaw("a.", 2): 1}},
		{slices.Repeat([][2]string{missing, wrong, {"", "{n}"}}, 1000), map[Flaw]int{flaw("n", 1): 1000, flaw("n", 2): 1000}},
	} {
		checkTable(t, "de", x.pairs, x.want)
		checkTable(t, "root", x.pairs, x.want)
	}
}

// P9.2: which flaws there are hangs on the tag.
func TestTableTags(t *testing.T) {
	pairs := [][2]string{}
	for _, word := range strings.Fields("zero one two few many") {
		pairs = append(pairs, [2]string{"{n,number}", "{n,plural," + word + "{}other{}}"}, [2]string{"{n,number}{m}", "{n,plural," + word + "{}other{}}"})
	}
	for g, set := range tags(t) {
		want := map[Flaw]int{flaw("m", 1): 5}
		if stray := 6 - len(strings.Fields(set)); stray > 0 {
			want[flaw("n", 5)] = 2 * stray
		}
		if m := Table(g, pairs...); !maps.Equal(m, want) {
			t.Errorf("Table in %v is %v, not %v", g, m, want)
		}
	}
}

// P9.2: a table counts just what Flaws tells of pairs by themselves.
func TestTableSome(t *testing.T) {
	var c chance
	g := parseTag(t, "cs")
	for range 300 {
		var pairs [][2]string
		want := map[Flaw]int{}
		for range c.below(40) {
			p := [2]string{c.some(0, []string{"one", "other"}), c.some(0, strings.Fields(all))}
			pairs = append(pairs, p)
			l, _ := Flaws(p[0], p[1], g)
			for _, f := range l {
				want[f]++
			}
		}
		checkTable(t, "cs", pairs, want)
	}
}

// P2, P9.2: answers share no memory.
func TestTableAgain(t *testing.T) {
	g := parseTag(t, "de")
	for range 10 {
		m := Table(g, [2]string{"{n}", "{m}"})
		if len(m) != 2 || m[Flaw{name.Name{'n'}, 1}] != 1 || m[Flaw{name.Name{'m'}, 2}] != 1 {
			t.Fatalf("%v", m)
		}
		m[Flaw{}] = 1
		clear(m)
		m[Flaw{name.Name{'n'}, 1}] = 7
	}
}
