package fit

import (
	"bytes"
	"maps"
	"slices"
	"strconv"
	"strings"
	"testing"

	"vulgate/api"
	"vulgate/name"
	"vulgate/skeleton"
	"vulgate/tag"
)

// plain is the set of all languages that the chapter of plurals doesn't list.
const plain = "one other"

// all are the categories' words.
const all = "zero one two few many other"

// sets are those of languages of each rule, of root, and of languages without rules of their own.
func sets() map[string]string {
	l := map[string]string{"root": plain, "de": plain, "en": plain, "rus": plain, "aru": plain, "jp": plain, "fr": "one other", "pt": "one other", "pl": "one few many other", "cs": "one few other", "sk": "one few other", "ar": all, "lt": "one few other"}
	for _, lang := range []string{"ja", "ko", "zh", "vi", "th", "id"} {
		l[lang] = "other"
	}
	for _, lang := range []string{"ru", "uk", "sr"} {
		l[lang] = "one few many other"
	}
	return l
}

// parseTag is the tag of a text, which must be one.
func parseTag(t *testing.T, s string) tag.Tag {
	t.Helper()
	x, err := tag.Parse(s)
	if err != api.OK {
		t.Fatalf("%q is no tag", s)
	}
	return x
}

// rawTag is a tag of these parts, whatever they are.
func rawTag(lang, script, region string) tag.Tag {
	var t tag.Tag
	copy(t.Lang[:], lang)
	copy(t.Script[:], script)
	copy(t.Region[:], region)
	return t
}

// wrongTags are tags that aren't right: they count as root, whatever their languages.
func wrongTags() []tag.Tag {
	l := []tag.Tag{rawTag("", "Latn", ""), rawTag("", "", "RU"), rawTag("\xff\xff\xff", "\xff\xff\xff\xff", "\xff\xff\xff"), rawTag("\x00ar", "", "")}
	for _, lang := range []string{"ja", "fr", "ru", "pl", "cs", "ar", "lt", "de"} {
		l = append(l, rawTag(strings.ToUpper(lang), "", ""), rawTag(lang[:1], "", ""), rawTag(lang+"1", "", ""), rawTag(lang, "latn", ""), rawTag(lang, "", "a"), rawTag(lang, "Latn", "at"))
	}
	return l
}

// tags are tags of all languages of the sets, with scripts and regions, and wrong ones; each with its set.
func tags(t *testing.T) map[tag.Tag]string {
	t.Helper()
	l := map[tag.Tag]string{}
	for lang, set := range sets() {
		l[parseTag(t, lang)] = set
		if lang != "root" {
			for _, behind := range []string{"-Latn", "-RU", "-DE", "-419", "-Arab-AR"} {
				l[parseTag(t, lang+behind)] = set
			}
		}
	}
	for _, x := range wrongTags() {
		l[x] = plain
	}
	return l
}

// show tells flaws as their names and numbers, with blanks between.
func show(l []Flaw) string {
	var words []string
	for _, f := range l {
		words = append(words, string(bytes.TrimRight(f.Name[:], "\x00"))+strconv.Itoa(f.Why))
	}
	return strings.Join(words, " ")
}

// checkFlaws holds what is wrong with a translation against what it must be; and Check, and Table of that pair alone.
func checkFlaws(t *testing.T, source, target string, g tag.Tag, want string) {
	t.Helper()
	l, err := Flaws(source, target, g)
	if show(l) != want || err != api.OK {
		t.Errorf("Flaws(%q, %q, %q) is %q, %d, not %q", source, target, g.Text(), show(l), err, want)
	}
	wantErr := api.ErrSkel
	if want == "" {
		wantErr = api.OK
	}
	if err := Check(source, target, g); err != wantErr {
		t.Errorf("Check(%q, %q, %q) is %d, not %d", source, target, g.Text(), err, wantErr)
	}
	m := Table(g, [2]string{source, target})
	if len(m) != len(l) {
		t.Errorf("Table of %q, %q in %q is %v", source, target, g.Text(), m)
	}
	for _, f := range l {
		if m[f] != 1 {
			t.Errorf("Table of %q, %q in %q has %d of %v", source, target, g.Text(), m[f], f)
		}
	}
}

// checkError holds a pair's error against what it must be; nothing else may be told beside it.
func checkError(t *testing.T, source, target string, g tag.Tag, want api.Errno) {
	t.Helper()
	if l, err := Flaws(source, target, g); len(l) != 0 || err != want {
		t.Errorf("Flaws(%q, %q, %q) is %q, %d, not %d", source, target, g.Text(), show(l), err, want)
	}
	if err := Check(source, target, g); err != want {
		t.Errorf("Check(%q, %q, %q) is %d, not %d", source, target, g.Text(), err, want)
	}
	if m := Table(g, [2]string{source, target}); len(m) != 0 {
		t.Errorf("Table of %q, %q in %q is %v", source, target, g.Text(), m)
	}
}

// used is how a name is used in a text.
type used struct {
	value, number, chosen bool
	words, categories     []string
}

// model: how each name is used in parts, by the chapter's words.
func model(l []skeleton.Node, by map[name.Name]*used) map[name.Name]*used {
	for _, n := range l {
		if n.Kind == skeleton.Text || n.Kind == skeleton.Sign {
			continue
		}
		if by[n.Name] == nil {
			by[n.Name] = &used{}
		}
		u := by[n.Name]
		switch n.Kind {
		case skeleton.Arg:
			u.value = true
		case skeleton.Number, skeleton.Plural:
			u.number = true
		case skeleton.Select:
			u.chosen = true
		}
		for _, c := range n.Cases {
			if n.Kind == skeleton.Select {
				u.words = append(u.words, c.Word)
			} else {
				u.categories = append(u.categories, c.Word)
			}
			model(c.Kids, by)
		}
	}
	return by
}

// within: does each word of a list stand in another one?
func within(l, of []string) bool {
	return !slices.ContainsFunc(l, func(word string) bool { return !slices.Contains(of, word) })
}

// modelWhy: what is wrong with a name, by the chapter's words.
func modelWhy(source, target *used, set string) int {
	switch {
	case target == nil:
		return Missing
	case source == nil:
		return Extra
	case source.number != target.number, source.chosen != target.chosen:
		return Kind
	case !source.number && !source.chosen && source.value != target.value:
		return Kind
	case !within(source.words, target.words), !within(target.words, source.words):
		return Words
	case !within(target.categories, strings.Fields(set)):
		return Category
	}
	return 0
}

// modelError: the error of a text, whose plurals may have the categories of a set.
func modelError(s, set string) api.Errno {
	l, _, err := skeleton.Parse(s)
	if err == api.OK {
		_, err = skeleton.Print(l)
	}
	if err != api.OK {
		return err
	}
	for _, u := range model(l, map[name.Name]*used{}) {
		if !within(u.categories, strings.Fields(set)) {
			return api.ErrSkel
		}
	}
	return api.OK
}

// checkModel holds a pair in a language against the model; how many flaws it has.
func checkModel(t *testing.T, source, target string, g tag.Tag, set string) int {
	t.Helper()
	err := modelError(source, plain)
	if err == api.OK {
		err = modelError(target, all)
	}
	if err != api.OK {
		checkError(t, source, target, g, err)
		return 0
	}
	l, _, _ := skeleton.Parse(source)
	asked := model(l, map[name.Name]*used{})
	l, _, _ = skeleton.Parse(target)
	told := model(l, map[name.Name]*used{})
	names := map[name.Name]struct{}{}
	for _, by := range []map[name.Name]*used{asked, told} {
		for n := range by {
			names[n] = struct{}{}
		}
	}
	var want []Flaw
	for _, n := range slices.SortedFunc(maps.Keys(names), func(a, b name.Name) int { return bytes.Compare(a[:], b[:]) }) {
		if why := modelWhy(asked[n], told[n], set); why > 0 {
			want = append(want, Flaw{n, why})
		}
	}
	checkFlaws(t, source, target, g, show(want))
	return len(want)
}

// chance is a row of numbers, the same ones each time.
type chance uint64

// below is the next number below most.
func (c *chance) below(most int) int {
	*c = *c*6364136223846793005 + 1442695040888963407
	return int(uint64(*c) >> 33 % uint64(most))
}

// some makes a text within so many choices: most are messages; some are too long, or wrong.
func (c *chance) some(deep int, categories []string) string {
	s := ""
	for range 1 + c.below(3) {
		n := string("aabn"[c.below(4)])
		switch kind := c.below(8); {
		case kind < 2:
			s += "x"
		case kind < 4:
			s += "{" + n + "}"
		case kind < 5:
			s += "{" + n + ",number}"
		case deep == 2:
			s += "#"
		case kind < 7:
			s += "{" + n + ",plural," + c.cases(deep+1, categories, categories) + "}"
		default:
			s += "{" + n + ",select," + c.cases(deep+1, []string{"f", "m", "few"}, categories) + "}"
		}
	}
	if c.below(60) == 0 {
		s += "}"
	}
	return s
}

// cases makes those of a choice, with these words; its plurals have these categories.
func (c *chance) cases(deep int, words, categories []string) string {
	s := ""
	for _, word := range words {
		if word != "other" && c.below(len(words)+1) == 0 {
			s += word + "{" + c.kids(deep, categories) + "}"
		}
	}
	return s + "other{" + c.kids(deep, categories) + "}"
}

// kids makes what stands in a case, which is often nothing.
func (c *chance) kids(deep int, categories []string) string {
	if c.below(3) > 0 {
		return ""
	}
	return c.some(deep, categories)
}
