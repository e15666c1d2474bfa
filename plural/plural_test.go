package plural

import (
	"math"
	"slices"
	"strconv"
	"strings"
	"testing"

	"vulgate/api"
	"vulgate/tag"
)

// The great numbers' edge.
const greatest = uint64(math.MaxUint64)

// listed are the languages that the chapter lists, those of one rule together.
func listed() [][]string {
	return [][]string{{"ja", "ko", "zh", "vi", "th", "id"}, {"fr", "pt"}, {"ru", "uk", "sr"}, {"pl"}, {"cs", "sk"}, {"ar"}, {"lt"}}
}

// others are languages that the chapter doesn't list: some of three letters begin, or end, as a listed one, and root.
func others() []string {
	l := []string{"root", "roo", "de", "en", "es", "he", "lv", "bg", "hr", "sl", "aa", "zz", "aaa", "zzz", "jp", "cn", "cz", "ua", "rs"}
	for _, lang := range slices.Concat(listed()...) {
		l = append(l, lang+"a", lang+"z", lang+lang[1:], "a"+lang, lang[1:]+lang[:1])
	}
	return slices.DeleteFunc(l, func(lang string) bool { return slices.Contains(slices.Concat(listed()...), lang) })
}

// languages are all that the tests go through.
func languages() []string {
	return append(slices.Concat(listed()...), others()...)
}

// parse is the tag of a text, which must be one.
func parse(t *testing.T, s string) tag.Tag {
	t.Helper()
	x, err := tag.Parse(s)
	if err != api.OK {
		t.Fatalf("%q is no tag", s)
	}
	return x
}

// tagsOf are a language's tags: alone, with a script, with a region, with both; those may spell other languages.
func tagsOf(t *testing.T, lang string) []tag.Tag {
	t.Helper()
	l := []tag.Tag{parse(t, lang)}
	if lang != "root" {
		for _, behind := range []string{"-Latn", "-Arab", "-RU", "-AR", "-FR", "-419", "-Latn-PL", "-Cyrl-001"} {
			l = append(l, parse(t, lang+behind))
		}
	}
	return l
}

// raw is a tag of these parts, whatever they are.
func raw(lang, script, region string) tag.Tag {
	var t tag.Tag
	copy(t.Lang[:], lang)
	copy(t.Script[:], script)
	copy(t.Region[:], region)
	return t
}

// wrong are tags that aren't right, each beginning as one whose language has rules of its own.
func wrong() []tag.Tag {
	var l []tag.Tag
	for _, lang := range slices.Concat(listed()...) {
		l = append(l,
			raw(strings.ToUpper(lang), "", ""), raw(strings.ToUpper(lang[:1])+lang[1:], "", ""), raw(lang[:1], "", ""), raw(lang[:1]+"\x00"+lang[1:], "", ""), raw("\x00"+lang, "", ""), raw(lang+"-", "", ""), raw(lang+"1", "", ""), raw(lang+"A", "", ""), raw(lang+"\xff", "", ""),
			raw(lang, "latn", ""), raw(lang, "LATN", ""), raw(lang, "Lat", ""), raw(lang, "RU", ""), raw(lang, "\x00\x00\x00a", ""), raw(lang, "", "at"), raw(lang, "", "A"), raw(lang, "", "41"), raw(lang, "", "AUT"), raw(lang, "", "\x00AT"), raw(lang, "Latn", "at"), raw(lang, "latn", "AT"),
		)
	}
	return append(l, raw("", "Latn", ""), raw("", "", "AT"), raw("", "", "419"), raw("", "Latn", "AT"), raw("", "Root", ""), raw("roo", "t", ""), raw("\xff\xff\xff", "\xff\xff\xff\xff", "\xff\xff\xff"), raw("\x00\x00\x01", "", ""), raw("", "", "\x00\x00\x01"))
}

// numbers are those that the tests go through: all small ones, and great ones about each power of 10 and of 2, up to the greatest.
func numbers() []uint64 {
	var l []uint64
	for n := range uint64(1300) {
		l = append(l, n, greatest-n)
	}
	for many, by := uint64(1000), uint64(10); many <= greatest/by; many *= by {
		for n := range uint64(230) {
			l = append(l, many+n, many-n, many*7+n)
		}
	}
	for i := range 64 {
		for n := range uint64(13) {
			l = append(l, 1<<i+n, 1<<i-n)
		}
	}
	return l
}

// lastTwo are a number's last two digits, as they are written.
func lastTwo(n uint64) (tens, unit byte) {
	s := "0" + strconv.FormatUint(n, 10)
	return s[len(s)-2], s[len(s)-1]
}

// modelRussian: one, few or many, by the last two digits.
func modelRussian(n uint64) int {
	tens, unit := lastTwo(n)
	switch {
	case tens == '1':
		return Many
	case unit == '1':
		return One
	case strings.IndexByte("234", unit) >= 0:
		return Few
	}
	return Many
}

// modelArabic: by small numbers, and by the last two digits.
func modelArabic(n uint64) int {
	tens, unit := lastTwo(n)
	switch {
	case n <= 2:
		return int(n)
	case tens == '0' && unit >= '3' || tens == '1' && unit == '0':
		return Few
	case tens == '0':
		return Other
	}
	return Many
}

// modelLithuanian: by the last two digits.
func modelLithuanian(n uint64) int {
	tens, unit := lastTwo(n)
	switch {
	case unit == '0' || tens == '1':
		return Other
	case unit == '1':
		return One
	}
	return Few
}

// model is what a number's category in a language must be.
func model(lang string, n uint64) int {
	switch lang {
	case "ja", "ko", "zh", "vi", "th", "id":
		return Other
	case "fr", "pt":
		if n == 0 {
			return One
		}
	case "ru", "uk", "sr":
		return modelRussian(n)
	case "pl":
		if n != 1 && modelRussian(n) == One {
			return Many
		}
		return modelRussian(n)
	case "cs", "sk":
		if n >= 2 && n <= 4 {
			return Few
		}
	case "ar":
		return modelArabic(n)
	case "lt":
		return modelLithuanian(n)
	}
	if n == 1 {
		return One
	}
	return Other
}

// modelSet is what a language's set must be, written out.
func modelSet(lang string) []int {
	switch lang {
	case "ja", "ko", "zh", "vi", "th", "id":
		return []int{5}
	case "ru", "uk", "sr", "pl":
		return []int{1, 3, 4, 5}
	case "cs", "sk", "lt":
		return []int{1, 3, 5}
	case "ar":
		return []int{0, 1, 2, 3, 4, 5}
	}
	return []int{1, 5}
}

// someCategories are categories, and numbers that are none: by 64 and by 2^32 away from one, too.
func someCategories() []int {
	return []int{
		math.MinInt, math.MinInt + 1, math.MinInt + 5, math.MinInt32, -1 << 32, -1<<32 + 1, -256, -255, -251, -64, -63, -59, -6, -5, -2, -1,
		0, 1, 2, 3, 4, 5, 6, 7, 8, 9, 13, 31, 32, 33, 37, 63, 64, 65, 69, 128, 129, 256, 257, 261, 1 << 32, 1<<32 + 1, 1<<32 + 5, math.MaxInt32, math.MaxInt - 1, math.MaxInt,
	}
}

// check holds a number's category in a tag's language against what it must be.
func check(t *testing.T, x tag.Tag, n uint64, want int) {
	t.Helper()
	if got := Of(x, n); got != want {
		t.Errorf("Of(%q, %d) is %d, not %d", x, n, got, want)
	}
}

// checkSet holds a language's set against what it must be.
func checkSet(t *testing.T, x tag.Tag, want []int) {
	t.Helper()
	if got := Set(x); !slices.Equal(got, want) {
		t.Errorf("Set(%q) is %v, not %v", x, got, want)
	}
	for _, c := range someCategories() {
		if In(x, c) != slices.Contains(want, c) {
			t.Errorf("In(%q, %d) is %t", x, c, In(x, c))
		}
	}
}

// checkPick holds what is picked against what it must be, and what was handed in against what it was.
func checkPick(t *testing.T, x tag.Tag, n uint64, have []int, want int, wantIs bool) {
	t.Helper()
	was := slices.Clone(have)
	if got, is := Pick(x, n, have...); got != want || is != wantIs {
		t.Errorf("Pick(%q, %d, %v) is %d, %t, not %d, %t", x, n, have, got, is, want, wantIs)
	}
	if !slices.Equal(have, was) {
		t.Errorf("Pick(%q, %d, %v) made of it %v", x, n, was, have)
	}
}

// The constants, which later layers name.
func TestConstants(t *testing.T) {
	if got := [...]int{Zero, One, Two, Few, Many, Other}; got != [...]int{0, 1, 2, 3, 4, 5} {
		t.Error(got)
	}
}

// P7.1: the categories of the numbers that the chapter names, written out, a letter each: z, o, t, f, m, and x of other.
func TestOfWritten(t *testing.T) {
	for langs, rows := range map[string]map[uint64]string{
		"ja ko zh vi th id": {0: "xxxxxx", 10: "xxxxxxxxxxxxx", 99: "xxxxxxxxxxxxxxxxxxxxxxxx", 200: "xxxxxxxxxxxxxxxxxxxxxxx"},
		"fr pt":             {0: "ooxxxx", 10: "xxxxxxxxxxxxx", 99: "xxxxxxxxxxxxxxxxxxxxxxxx", 200: "xxxxxxxxxxxxxxxxxxxxxxx"},
		"ru uk sr":          {0: "mofffm", 10: "mmmmmmmmmmmof", 99: "mmofffmmmmmmmmmmmmmmmmof", 200: "mofffmmmmmmmmmmmmmmmmof"},
		"pl":                {0: "mofffm", 10: "mmmmmmmmmmmmf", 99: "mmmfffmmmmmmmmmmmmmmmmmf", 200: "mmfffmmmmmmmmmmmmmmmmmf"},
		"cs sk":             {0: "xofffx", 10: "xxxxxxxxxxxxx", 99: "xxxxxxxxxxxxxxxxxxxxxxxx", 200: "xxxxxxxxxxxxxxxxxxxxxxx"},
		"ar":                {0: "zotfff", 10: "fmmmmmmmmmmmm", 99: "mxxxffffffffmmmmmmmmmmmm", 200: "xxxffffffffmmmmmmmmmmmm"},
		"lt":                {0: "xoffff", 10: "xxxxxxxxxxxof", 99: "fxoffffffffxxxxxxxxxxxof", 200: "xoffffffffxxxxxxxxxxxof"},
		"de en root jaa rus arz lta ple csb frp aru zha": {0: "xoxxxx", 10: "xxxxxxxxxxxxx", 99: "xxxxxxxxxxxxxxxxxxxxxxxx", 200: "xxxxxxxxxxxxxxxxxxxxxxx"},
	} {
		for _, lang := range strings.Fields(langs) {
			for _, x := range tagsOf(t, lang) {
				for from, row := range rows {
					for i := range row {
						check(t, x, from+uint64(i), strings.IndexByte("zotfmx", row[i]))
					}
				}
			}
		}
	}
}

// P7.1: great numbers, written out.
func TestOfGreat(t *testing.T) {
	for _, x := range []struct {
		lang string
		n    uint64
		want int
	}{
		{"ru", greatest, Many}, {"ru", greatest - 1, Many}, {"ru", greatest - 3, Many}, {"ru", greatest - 13, Few}, {"ru", greatest - 14, One}, // 2^64 - 1 ends with 615
		{"pl", greatest - 13, Few}, {"pl", greatest - 14, Many}, {"pl", greatest - 3, Many},
		{"ar", greatest, Many}, {"ar", greatest - 4, Many}, {"ar", greatest - 5, Few}, {"ar", greatest - 12, Few}, {"ar", greatest - 13, Other}, {"ar", greatest - 15, Other}, {"ar", greatest - 16, Many},
		{"lt", greatest, Other}, {"lt", greatest - 5, Other}, {"lt", greatest - 6, Few}, {"lt", greatest - 14, One}, {"lt", greatest - 15, Other}, {"lt", greatest - 16, Few},
		{"fr", greatest, Other}, {"cs", greatest, Other}, {"ja", greatest, Other}, {"de", greatest, Other}, {"root", greatest, Other},
		{"fr", 1 << 32, Other}, {"fr", 1<<32 + 1, Other}, {"de", 1<<32 + 1, Other}, {"de", 1<<63 + 1, Other}, {"cs", 1<<32 + 2, Other}, {"ar", 1 << 32, Many}, {"ar", 1 << 63, Few}, {"pl", 1<<32 + 1, Many}, {"de", 257, Other}, {"cs", 258, Other}, // 2^32 ends with 296, 2^63 with 808
	} {
		check(t, parse(t, x.lang), x.n, x.want)
	}
}

// P7.1: the categories of all the numbers in all the languages, by the chapter's words.
func TestOf(t *testing.T) {
	for _, lang := range languages() {
		x := parse(t, lang)
		for _, n := range numbers() {
			check(t, x, n, model(lang, n))
		}
	}
}

// P7.1: script and region don't matter.
func TestOfTags(t *testing.T) {
	for _, lang := range languages() {
		for _, x := range tagsOf(t, lang) {
			for n := range uint64(250) {
				check(t, x, n, model(lang, n))
			}
			checkSet(t, x, modelSet(lang))
		}
	}
}

// P7.1: each language of two letters, and each of three that begins or ends as a listed one: no other one has rules of its own.
func TestOfEachLanguage(t *testing.T) {
	const letters = "abcdefghijklmnopqrstuvwxyz"
	for _, a := range letters {
		for _, b := range letters {
			lang := string([]rune{a, b})
			checkSet(t, parse(t, lang), modelSet(lang))
			for _, n := range []uint64{0, 1, 2, 3, 5, 11, 21, 103} {
				check(t, parse(t, lang), n, model(lang, n))
			}
		}
	}
	for _, lang := range slices.Concat(listed()...) {
		for _, c := range letters {
			checkSet(t, parse(t, lang+string(c)), []int{One, Other})
			checkSet(t, parse(t, string(c)+lang), []int{One, Other})
		}
	}
}

// P7.1: each language's set, rising, with other; and which numbers are of it.
func TestSet(t *testing.T) {
	for _, lang := range languages() {
		x := parse(t, lang)
		checkSet(t, x, modelSet(lang))
		if l := Set(x); !slices.IsSorted(l) || len(slices.Compact(slices.Clone(l))) != len(l) || !slices.Contains(l, Other) {
			t.Errorf("Set(%q) is %v", lang, l)
		}
	}
}

// P7.1: a set is just what some number has, and other.
func TestSetOfNumbers(t *testing.T) {
	for _, lang := range languages() {
		x := parse(t, lang)
		had := []int{Other}
		for _, n := range numbers() {
			had = append(had, Of(x, n))
		}
		slices.Sort(had)
		checkSet(t, x, slices.Compact(had))
	}
}

// P7.1: a set is new memory.
func TestSetNewMemory(t *testing.T) {
	x := parse(t, "ru")
	first, second := Set(x), Set(x)
	first[0] = Two
	_ = append(first[:1], Zero)
	if want := modelSet("ru"); !slices.Equal(second, want) || !slices.Equal(Set(x), want) {
		t.Errorf("the second is %v, a third %v", second, Set(x))
	}
}

// P7.1, P7.2: tags that aren't right count as root, in each function.
func TestWrong(t *testing.T) {
	root := tag.Tag{}
	for _, x := range wrong() {
		if tag.Right(x) {
			t.Fatalf("%q is right", x)
		}
		for n := range uint64(230) {
			check(t, x, n, model("root", n))
		}
		check(t, x, greatest, Other)
		checkSet(t, x, []int{One, Other})
		for _, n := range []uint64{0, 1, 2, 3, 11, 103} {
			for _, have := range [][]int{nil, {One}, {Other}, {One, Other}, {Zero, Two, Few, Many}, {Zero, One, Two, Few, Many, Other}} {
				want, is := Pick(root, n, have...)
				checkPick(t, x, n, have, want, is)
			}
		}
	}
	checkPick(t, raw("AR", "", ""), 0, []int{Zero, Other}, Other, true)
	checkPick(t, raw("ar", "", "eg"), 0, []int{Zero}, 0, false)
	checkPick(t, raw("ru", "cyrl", ""), 3, []int{One, Few}, 0, false)
	checkPick(t, raw("JA", "", ""), 1, []int{One, Other}, One, true)
}

// P7.2: each category's word, and no other number's.
func TestWord(t *testing.T) {
	all := []string{"zero", "one", "two", "few", "many", "other"}
	for _, c := range someCategories() {
		want := ""
		if c >= 0 && c < len(all) {
			want = all[c]
		}
		if got := Word(c); got != want {
			t.Errorf("Word(%d) is %q, not %q", c, got, want)
		}
	}
}

// checkRead holds the category of a word against what it must be.
func checkRead(t *testing.T, s string, want int, wantErr api.Errno) {
	t.Helper()
	if got, err := Read(s); got != want || err != wantErr {
		t.Errorf("Read(%.40q) is %d, %d, not %d, %d", s, got, err, want, wantErr)
	}
}

// P7.2: each word, in other letters, with more behind or ahead, with less, with each byte at each place, and other texts.
func TestRead(t *testing.T) {
	all := []string{"zero", "one", "two", "few", "many", "other"}
	for c, s := range all {
		checkRead(t, s, c, api.OK)
		for _, other := range []string{strings.ToUpper(s), strings.ToUpper(s[:1]) + s[1:], s[:len(s)-1] + strings.ToUpper(s[len(s)-1:]), s + "s", s + " ", s + "\x00", s + "\n", s + s, s + "{", " " + s, "\x00" + s, "=" + s, strconv.Itoa(c), strings.Repeat(s, 1<<12)} {
			checkRead(t, other, 0, api.ErrName)
		}
		for _, behind := range all {
			checkRead(t, s+behind, 0, api.ErrName)
			checkRead(t, s+","+behind, 0, api.ErrName)
		}
		for i := range s {
			checkRead(t, s[:i], 0, api.ErrName)
			checkRead(t, s[:i]+s[i+1:], 0, api.ErrName)
			for b := range 256 {
				of := []byte(s)
				of[i] = byte(b)
				if string(of) != s {
					checkRead(t, string(of), 0, api.ErrName)
				}
			}
		}
	}
	for _, s := range []string{"", " ", "\x00", "some", "none", "0", "1", "5", "others", "zer\u00f6", "\u00f6ne", "\uff4f\uff4e\uff45", "\xff", strings.Repeat("o", 1<<16)} {
		checkRead(t, s, 0, api.ErrName)
	}
}

// P7.2: what is told as a word is read as it was.
func TestWordIsRead(t *testing.T) {
	for _, lang := range languages() {
		for _, c := range Set(parse(t, lang)) {
			checkRead(t, Word(c), c, api.OK)
		}
	}
	for _, c := range someCategories() {
		if c < 0 || c > 5 {
			checkRead(t, Word(c), 0, api.ErrName)
		}
	}
}

// P7.2: picks among none, among all, with the own one alone, with other alone, with neither, with one twice, and with numbers that are no category.
func TestPickWritten(t *testing.T) {
	for _, x := range []struct {
		lang string
		n    uint64
		have []int
		want int
		is   bool
	}{
		{"ru", 3, nil, 0, false}, {"ru", 3, []int{}, 0, false}, {"ja", 3, nil, 0, false}, {"ar", 0, nil, 0, false}, {"de", 1, nil, 0, false},
		{"ru", 3, []int{0, 1, 2, 3, 4, 5}, Few, true}, {"ru", 3, []int{5, 4, 3, 2, 1, 0}, Few, true}, {"ru", 5, []int{0, 1, 2, 3, 4, 5}, Many, true}, {"ar", 0, []int{0, 1, 2, 3, 4, 5}, Zero, true}, {"ar", 2, []int{5, 2}, Two, true}, {"ja", 1, []int{0, 1, 2, 3, 4, 5}, Other, true}, {"de", 0, []int{0, 1, 2, 3, 4, 5}, Other, true}, {"de", 1, []int{0, 1, 2, 3, 4, 5}, One, true},
		{"ru", 3, []int{Few}, Few, true}, {"ru", 21, []int{One}, One, true}, {"ar", 0, []int{Zero}, Zero, true}, {"ja", 1, []int{Other}, Other, true},
		{"ru", 3, []int{Other}, Other, true}, {"ru", 21, []int{Other}, Other, true}, {"ar", 0, []int{Other}, Other, true}, {"de", 1, []int{Other}, Other, true},
		{"ru", 3, []int{One}, 0, false}, {"ru", 3, []int{0, 1, 2, 4}, 0, false}, {"ar", 0, []int{1, 2, 3, 4}, 0, false}, {"ja", 1, []int{0, 1, 2, 3, 4}, 0, false}, {"de", 0, []int{Zero, One}, 0, false}, {"de", 2, []int{Two}, 0, false},
		{"ru", 3, []int{Few, Few}, Few, true}, {"ru", 3, []int{Few, Other, Few}, Few, true}, {"ru", 3, []int{Other, Other}, Other, true}, {"ru", 3, []int{One, One, Many, Many}, 0, false}, {"ru", 3, []int{Other, One, Other, Few}, Few, true},
		{"ru", 3, []int{-1, 6, math.MaxInt, math.MinInt}, 0, false}, {"ru", 3, []int{-1, Few, 6}, Few, true}, {"ru", 3, []int{6, -1, Other, 7}, Other, true}, {"ru", 3, []int{3 - 64, 3 + 64, 3 + 256, 3 + 1<<32}, 0, false}, {"ja", 3, []int{5 - 64, 5 + 64, 5 + 256, 5 + 1<<32}, 0, false}, {"ar", 0, []int{-1, 64, 256, 1 << 32, -64}, 0, false},
		{"ru-Latn-RU", greatest - 13, []int{One, Few, Other}, Few, true}, {"ru", greatest, []int{One, Few, Other}, Other, true}, {"fr-CA", 0, []int{One, Other}, One, true}, {"root", 1, []int{One, Other}, One, true}, {"root", 0, []int{One, Other}, Other, true}, {"root", 0, []int{One}, 0, false},
	} {
		checkPick(t, parse(t, x.lang), x.n, x.have, x.want, x.is)
	}
}

// P7.2: picks among each choice of categories, in each language.
func TestPick(t *testing.T) {
	for _, lang := range languages() {
		x := parse(t, lang)
		for choice := range 1 << 6 {
			var have []int
			for c := range 6 {
				if choice>>c&1 == 1 {
					have = append(have, c)
				}
			}
			for _, n := range []uint64{0, 1, 2, 3, 5, 11, 21, 22, 100, 103, 111, greatest} {
				want, is := model(lang, n), true
				if !slices.Contains(have, want) {
					want, is = Other, slices.Contains(have, Other)
				}
				if !is {
					want = 0
				}
				checkPick(t, x, n, have, want, is)
			}
		}
	}
	many := append(slices.Repeat([]int{One, Two, Many, -1}, 1<<14), Few)
	checkPick(t, parse(t, "ru"), 3, many, Few, true)
	checkPick(t, parse(t, "ru"), 3, many[:len(many)-1], 0, false)
}

// P7.3: each number's category is of the set, and so it is picked of it.
func TestOfSet(t *testing.T) {
	for _, lang := range languages() {
		x := parse(t, lang)
		set := Set(x)
		for _, n := range numbers() {
			c := Of(x, n)
			if !slices.Contains(set, c) || !In(x, c) {
				t.Errorf("Of(%q, %d) is %d, not of %v", x, n, c, set)
			}
			checkPick(t, x, n, set, c, true)
		}
	}
}

// P7.3: in the languages of ru, ar, pl, lt numbers from 100 on have the category of themselves and 100 more, up to 2^64 - 1.
func TestHundredMore(t *testing.T) {
	for _, lang := range []string{"ru", "uk", "sr", "ar", "pl", "lt"} {
		x := parse(t, lang)
		for _, n := range append(numbers(), greatest-100, greatest-199) {
			if n >= 100 && n <= greatest-100 {
				check(t, x, n, Of(x, n+100))
			}
		}
		for n := range uint64(100) {
			last := (greatest-100-n)%100 + 100
			check(t, x, greatest-n, Of(x, greatest-n-100))
			check(t, x, greatest-100-n, Of(x, last))
		}
	}
}

// P1: each function ends, and none panics, at all arguments.
func TestAllArguments(t *testing.T) {
	for _, x := range append(wrong(), tag.Tag{}, parse(t, "ar"), parse(t, "lt-Latn-LT")) {
		for _, n := range []uint64{0, 1, 1 << 31, 1 << 32, 1 << 63, greatest} {
			if c, is := Pick(x, n, someCategories()...); !is || c != Of(x, n) {
				t.Errorf("Pick(%q, %d) is %d, %t", x, n, c, is)
			}
		}
		for _, c := range someCategories() {
			if In(x, c) && Word(c) == "" {
				t.Errorf("In(%q, %d)", x, c)
			}
		}
	}
}

// P2: the same calls in the same order have the same answers.
func TestSameAnswers(t *testing.T) {
	x, have := parse(t, "ar-EG"), []int{Few, Other}
	for range 200 {
		check(t, x, 103, Few)
		checkSet(t, x, []int{0, 1, 2, 3, 4, 5})
		checkPick(t, x, 111, have, Other, true)
		checkRead(t, "few", Few, api.OK)
	}
}
