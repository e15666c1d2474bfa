package tag

import (
	"regexp"
	"slices"
	"strings"
	"testing"

	"vulgate/api"
)

// textOf is what a tag's text is by the chapter's words, but root's: language, script, region.
var textOf = regexp.MustCompile(`\A([a-zA-Z]{2,3})(?:-([a-zA-Z]{4}))?(?:-([a-zA-Z]{2}|[0-9]{3}))?\z`)

// rightBytes is what a right tag's bytes are by the chapter's words.
var rightBytes = regexp.MustCompile(`\A(?:\x00{10}|(?:[a-z]{2}\x00|[a-z]{3})(?:\x00{4}|[A-Z][a-z]{3})(?:\x00{3}|[A-Z]{2}\x00|[0-9]{3}))\z`)

// root is the zero tag.
var root Tag

// raw is a tag of these parts, and 0 behind them, whatever they are.
func raw(lang, script, region string) Tag {
	var t Tag
	copy(t.Lang[:], lang)
	copy(t.Script[:], script)
	copy(t.Region[:], region)
	return t
}

// rawBytes are a tag's bytes, whatever they are.
func rawBytes(t Tag) [10]byte {
	return [10]byte(slices.Concat(t.Lang[:], t.Script[:], t.Region[:]))
}

// rawOf is the tag of these bytes, whatever they are.
func rawOf(b [10]byte) Tag {
	return Tag{Lang: [3]byte(b[:3]), Script: [4]byte(b[3:7]), Region: [3]byte(b[7:])}
}

// isRight tells of a tag whether it is right, by the chapter's words.
func isRight(t Tag) bool {
	b := rawBytes(t)
	return rightBytes.Match(b[:])
}

// model is what a text's tag must be, and whether it has one.
func model(s string) (Tag, bool) {
	if s == "root" {
		return root, true
	}
	m := textOf.FindStringSubmatch(s)
	if m == nil {
		return root, false
	}
	script := m[2]
	if script != "" {
		script = strings.ToUpper(script[:1]) + strings.ToLower(script[1:])
	}
	return raw(strings.ToLower(m[1]), script, strings.ToUpper(m[3])), true
}

// modelText is what a right tag's canonical text must be.
func modelText(t Tag) string {
	if t == root {
		return "root"
	}
	var text strings.Builder
	for i, part := range [][]byte{t.Lang[:], t.Script[:], t.Region[:]} {
		if part[0] != 0 && i > 0 {
			text.WriteByte('-')
		}
		text.WriteString(strings.TrimRight(string(part), "\x00"))
	}
	return text.String()
}

// modelChain is what a tag's chain must be.
func modelChain(t Tag) []Tag {
	if !isRight(t) {
		return nil
	}
	l := []Tag{t, {Lang: t.Lang, Script: t.Script}, {Lang: t.Lang}, {}}
	return slices.Compact(l)
}

// modelMatch is what the first of a tag's chain that is among others must be.
func modelMatch(want Tag, have []Tag) (Tag, bool) {
	for _, t := range modelChain(want) {
		if slices.Contains(have, t) {
			return t, true
		}
	}
	return root, false
}

// some are right tags, in order.
func some() []Tag {
	return []Tag{
		root, raw("aa", "", ""), raw("aa", "", "AA"), raw("aa", "Aaaa", ""), raw("aaa", "", ""), raw("az", "", ""),
		raw("de", "", ""), raw("de", "", "001"), raw("de", "", "419"), raw("de", "", "AT"), raw("de", "", "CH"), raw("de", "", "DE"),
		raw("de", "Latn", ""), raw("de", "Latn", "000"), raw("de", "Latn", "999"), raw("de", "Latn", "AT"), raw("de", "Latn", "CH"), raw("de", "Runr", ""), raw("de", "Runr", "AT"),
		raw("deu", "", ""), raw("deu", "", "AT"), raw("deu", "Latn", ""), raw("deu", "Latn", "AT"), raw("df", "", ""),
		raw("roo", "", ""), raw("yue", "", "BR"), raw("zh", "", ""), raw("zh", "", "TW"), raw("zh", "Hans", ""), raw("zh", "Hans", "TW"), raw("zh", "Hant", ""), raw("zh", "Hant", "TW"), raw("zz", "Zzzz", "ZZ"), raw("zzz", "Zzzz", "ZZ"),
	}
}

// wrong are tags that aren't right, those among them whose beginnings would be.
func wrong() []Tag {
	return []Tag{
		raw("d", "", ""), raw("DE", "", ""), raw("De", "", ""), raw("dE", "", ""), raw("d1", "", ""), raw("12", "", ""), raw("de-", "", ""), raw("d-", "", ""), raw("\xc3\xa9", "", ""), raw("d\xff", "", ""), raw("d e", "", ""),
		raw("de", "latn", ""), raw("de", "LATN", ""), raw("de", "LatN", ""), raw("de", "lATN", ""), raw("de", "Lat", ""), raw("de", "L", ""), raw("de", "La1n", ""), raw("de", "1994", ""), raw("de", "AT", ""), raw("de", "419", ""),
		raw("de", "", "at"), raw("de", "", "At"), raw("de", "", "aT"), raw("de", "", "A"), raw("de", "", "AUT"), raw("de", "", "1"), raw("de", "", "12"), raw("de", "", "A1"), raw("de", "", "1A"), raw("de", "", "12A"), raw("de", "", "AT-"), raw("de", "Latn", "at"), raw("de", "Latn", "12"),
		raw("d\x00e", "", ""), raw("\x00de", "", ""), raw("\x00\x00d", "", ""), raw("\x00d", "Latn", ""), raw("de", "L\x00tn", ""), raw("de", "La\x00n", ""), raw("de", "Lat\x00", "AT"), raw("de", "\x00atn", ""), raw("de", "\x00Lat", "AT"), raw("de", "\x00\x00\x00a", ""),
		raw("de", "", "A\x00T"), raw("de", "", "4\x009"), raw("de", "", "\x00AT"), raw("de", "", "\x0012"), raw("de", "", "\x00\x00A"), raw("de", "Latn", "\x00\x00A"),
		raw("", "Latn", ""), raw("", "", "AT"), raw("", "", "419"), raw("", "Latn", "AT"), raw("", "root", ""), raw("", "Root", ""), raw("", "de", ""), raw("ro", "ot", ""), raw("roo", "t", ""), raw("", "", "\x00\x00\x01"), raw("\x00\x00\x01", "", ""),
	}
}

// parts are right and wrong languages, scripts and regions.
func parts() (langs, scripts, regions []string) {
	langs = []string{"", "d", "de", "DE", "dE", "De", "deu", "DEU", "dEu", "dede", "d1", "1d", "12", "123", "ro", "roo", "root", "Root", "ROOT", "rooT", "d\x00", "de\x00", "\x00de", "d_e", "\u00e9", "\u00e9a", "de ", " de", "d\xff"}
	scripts = []string{"", "-", "-L", "-La", "-Lat", "-lat", "-Latn", "-latn", "-LATN", "-lAtN", "-LATn", "-lATN", "-Latin", "-L4tn", "-Lat1", "-1994", "-1Lat", "--Latn", "_Latn", "Latn", "-Lat\x00", "-Lat\xff", "-La\u00e9", "-Latn-Latn", "-Latn-latn"}
	regions = []string{"", "-", "-A", "-AT", "-at", "-aT", "-At", "-AUT", "-aut", "-1", "-12", "-419", "-000", "-999", "-1996", "-A1", "-1A", "-41A", "-A19", "--AT", "-AT-", "-AT-AT", "-419-419", "-419-AT", "-AT-x", "-AT--", "_AT", "/AT", "-AT\x00", "-A\x00", "-\u00e9", "-\u0663\u0664\u0665", "-\u0663"}
	return langs, scripts, regions
}

// texts are those that the tests go through: right and wrong parts with one another, and each byte at each place of some.
func texts() []string {
	l := []string{"rootroot", "root-", "-root", "root-AT", "root-Latn", "root-Latn-AT", "root-419", "root\x00", "root ", " root", "roo-t", "ro-ot", "rot", "-", "--", "---", "-de", "--de", "de---AT", "de-Latn--AT", "de--Latn-AT", "de-AT-Latn", "de-419-Latn", "de-latn-at-x", "de-Latn-AT-Latn-AT", "d\u212a", "\u212a", "\u017fa", "de-\u017f\u017f", "de-\u017f\u017f\u017f\u017f", strings.Repeat("-", 1<<16), strings.Repeat("a", 1<<16), strings.Repeat("de-", 1<<12), "de-Latn-AT" + strings.Repeat("-", 1<<10)}
	langs, scripts, regions := parts()
	for _, lang := range langs {
		for _, script := range scripts {
			for _, region := range regions {
				l = append(l, lang+script+region, "-"+lang+script+region)
			}
		}
	}
	for _, s := range []string{"de", "deu", "de-AT", "de-419", "de-Latn", "deu-Latn-AT", "deu-Latn-419", "root", "abcde", "de-Latn-AT-x"} {
		for i := range s {
			for c := range 256 {
				b := []byte(s)
				b[i] = byte(c)
				l = append(l, string(b), s[:i]+string(b[i:i+1])+s[i:], s[:i]+s[i+1:])
			}
		}
	}
	return l
}

// random tells numbers that look like chance, the same in each run.
func random() func(below int) int {
	w := uint64(1)
	return func(below int) int {
		w = w*6364136223846793005 + 1442695040888963407
		return int(w >> 33 % uint64(below))
	}
}

// anyTag is a tag of few parts, so that many are of one chain; some aren't right.
func anyTag(next func(below int) int) Tag {
	langs, scripts, regions := []string{"de", "de", "zh", "deu", "de", "", "DE"}, []string{"", "Latn", "Hant", "", "Latn", "latn"}, []string{"", "AT", "419", "", "AT", "at"}
	if next(6) == 0 {
		return root
	}
	return raw(langs[next(len(langs))], scripts[next(len(scripts))], regions[next(len(regions))])
}

// checkTag holds a tag, and whether there is one, against what they must be.
func checkTag(t *testing.T, what string, got Tag, is bool, want Tag, wantIs bool) {
	t.Helper()
	if got != want || is != wantIs {
		t.Errorf("%s is %q, %t, not %q, %t", what, got, is, want, wantIs)
	}
}

// checkTags holds tags against what they must be.
func checkTags(t *testing.T, what string, got, want []Tag) {
	t.Helper()
	if !slices.Equal(got, want) {
		t.Errorf("%s: %q, not %q", what, got, want)
	}
}

// P5.1: the texts that have tags, and those that haven't: all sizes of parts, all letters, each byte at each place.
func TestParse(t *testing.T) {
	right := 0
	for _, s := range texts() {
		want, ok := model(s)
		wantErr := api.ErrTag
		if ok {
			wantErr, right = api.OK, right+1
		}
		if got, err := Parse(s); got != want || err != wantErr {
			t.Errorf("Parse(%.40q) is %q, %d, not %q, %d", s, got, err, want, wantErr)
		}
	}
	if right < 1000 {
		t.Errorf("but %d texts were right", right)
	}
}

// P5.1: the chapter's examples, and the edges that it names, written out; canonical texts are told again.
func TestParseWritten(t *testing.T) {
	for _, x := range []struct {
		text, canonical string
		want            Tag
	}{
		{"root", "root", Tag{}},
		{"de", "de", Tag{Lang: [3]byte{'d', 'e'}}},
		{"DEU", "deu", Tag{Lang: [3]byte{'d', 'e', 'u'}}},
		{"roo", "roo", Tag{Lang: [3]byte{'r', 'o', 'o'}}},
		{"aZ", "az", Tag{Lang: [3]byte{'a', 'z'}}},
		{"ZH-hant-tw", "zh-Hant-TW", Tag{[3]byte{'z', 'h'}, [4]byte{'H', 'a', 'n', 't'}, [3]byte{'T', 'W'}}},
		{"es-419", "es-419", Tag{Lang: [3]byte{'e', 's'}, Region: [3]byte{'4', '1', '9'}}},
		{"es-090", "es-090", Tag{Lang: [3]byte{'e', 's'}, Region: [3]byte{'0', '9', '0'}}},
		{"yue-br", "yue-BR", Tag{Lang: [3]byte{'y', 'u', 'e'}, Region: [3]byte{'B', 'R'}}},
		{"sr-LATN", "sr-Latn", Tag{Lang: [3]byte{'s', 'r'}, Script: [4]byte{'L', 'a', 't', 'n'}}},
		{"sr-zAZa", "sr-Zaza", Tag{Lang: [3]byte{'s', 'r'}, Script: [4]byte{'Z', 'a', 'z', 'a'}}},
		{"DEU-rOOT-000", "deu-Root-000", Tag{[3]byte{'d', 'e', 'u'}, [4]byte{'R', 'o', 'o', 't'}, [3]byte{'0', '0', '0'}}},
	} {
		got, err := Parse(x.text)
		checkTag(t, x.text, got, err == api.OK, x.want, true)
		if got.Text() != x.canonical {
			t.Errorf("the text of %q is %q, not %q", x.text, got.Text(), x.canonical)
		}
	}
	for _, s := range []string{
		"", "d", "dede", "d1", "1d", "12", "d\x00", "de-1996", "de-", "-de", "-", "--", "de--AT", "de--Latn", "de-Latn-", "de-Latn--AT", "de-AT-", "-de-AT", "-Latn", "-Latn-AT", "-AT", "-419",
		"de-L", "de-Lat", "de-Latin", "de-A", "de-12", "de-AUT", "de-4199", "de-A1", "de-41A", "de-AT-Latn", "de-AT-AT", "de-Latn-Latn", "de-Latn-AT-AT", "de-AT-419", "de-Latn-AT-x",
		"Root", "ROOT", "rooT", "root-", "-root", "root-AT", "root-Latn", "rootx", "root\x00", "de_AT", "de AT", "deAT", "de-AT ", " de", "de\n", "d\u00e9", "d\u212a", "\u212a", "de-La\u017f", "de-\u0663\u0664\u0665", "`a", "a{", "@A", "A[", "de-/00", "de-0:0",
	} {
		if got, err := Parse(s); got != root || err != api.ErrTag {
			t.Errorf("Parse(%q) is %q, %d", s, got, err)
		}
	}
}

// checkBytes holds a tag's text, whether it is right, and its bytes against what they must be.
func checkBytes(t *testing.T, x Tag) {
	t.Helper()
	right, text := isRight(x), ""
	if right {
		text = modelText(x)
	}
	if x.Text() != text || Right(x) != right {
		t.Errorf("of %q Text is %q, Right %t", x, x.Text(), Right(x))
	}
	if x.Bytes() != rawBytes(x) {
		t.Errorf("of %q Bytes is %q", x, x.Bytes())
	}
	want, wantErr := root, api.ErrTag
	if right {
		want, wantErr = x, api.OK
	}
	if got, err := Of(rawBytes(x)); got != want || err != wantErr {
		t.Errorf("Of(%q) is %q, %d, not %q, %d", rawBytes(x), got, err, want, wantErr)
	}
}

// P5.1: text and bytes of right tags, and of others: each byte at each place of some.
func TestTextAndBytes(t *testing.T) {
	for _, x := range some() {
		if !isRight(x) {
			t.Errorf("%q isn't right", x)
		}
		checkBytes(t, x)
		for i := range 10 {
			for c := range 256 {
				b := rawBytes(x)
				b[i] = byte(c)
				checkBytes(t, rawOf(b))
			}
		}
	}
	for _, x := range wrong() {
		if isRight(x) {
			t.Errorf("%q is right", x)
		}
		checkBytes(t, x)
	}
	next := random()
	for range 20000 {
		var b [10]byte
		for i := range b {
			b[i] = "de\x00\x00Aa1-"[next(8)]
		}
		checkBytes(t, rawOf(b))
	}
}

// P5.1: bytes written out: language, script, region, each where it stands, of tags that aren't right too.
func TestBytesWritten(t *testing.T) {
	for want, x := range map[string]Tag{
		"zh\x00HantTW\x00":                         raw("zh", "Hant", "TW"),
		"yueHant419":                               raw("yue", "Hant", "419"),
		"de\x00\x00\x00\x00\x00AT\x00":             raw("de", "", "AT"),
		"de\x00Latn\x00\x00\x00":                   raw("de", "Latn", ""),
		"\x00\x00\x00\x00\x00\x00\x00\x00\x00\x00": root,
	} {
		if got := x.Bytes(); string(got[:]) != want {
			t.Errorf("Bytes is %q, not %q", got, want)
		}
		got, err := Of([10]byte([]byte(want)))
		checkTag(t, want, got, err == api.OK, x, true)
	}
	x := Tag{[3]byte{1, 2, 3}, [4]byte{4, 5, 6, 7}, [3]byte{8, 9, 10}}
	if got := x.Bytes(); got != [10]byte{1, 2, 3, 4, 5, 6, 7, 8, 9, 10} {
		t.Errorf("Bytes is %v", got)
	}
	got, err := Of(x.Bytes())
	checkTag(t, "of bytes that are no tag's", got, err == api.ErrTag, root, true)
}

// P5.2: parents and chains of one, two, three and four tags, written out.
func TestChainWritten(t *testing.T) {
	for _, l := range [][]Tag{
		{root},
		{raw("de", "", ""), root},
		{raw("deu", "", ""), root},
		{raw("de", "", "AT"), raw("de", "", ""), root},
		{raw("de", "", "419"), raw("de", "", ""), root},
		{raw("sr", "Latn", ""), raw("sr", "", ""), root},
		{raw("zh", "Hant", "TW"), raw("zh", "Hant", ""), raw("zh", "", ""), root},
		{raw("yue", "Hant", "419"), raw("yue", "Hant", ""), raw("yue", "", ""), root},
	} {
		checkTags(t, "Chain", l[0].Chain(), l)
		for i, x := range l[:len(l)-1] {
			got, is := x.Parent()
			checkTag(t, "Parent", got, is, l[i+1], true)
		}
	}
	got, is := root.Parent()
	checkTag(t, "root's parent", got, is, root, false)
}

// P5.2: parents and chains of any tags.
func TestChain(t *testing.T) {
	for _, x := range slices.Concat(some(), wrong()) {
		want := modelChain(x)
		checkTags(t, "Chain", x.Chain(), want)
		got, is := x.Parent()
		if len(want) > 1 {
			checkTag(t, "Parent", got, is, want[1], true)
		} else {
			checkTag(t, "Parent", got, is, root, false)
		}
	}
}

// P5.2: a chain is new memory.
func TestChainNewMemory(t *testing.T) {
	x := raw("zh", "Hant", "TW")
	first, second := x.Chain(), x.Chain()
	first[1] = raw("de", "", "")
	_ = append(first[:2], raw("fr", "", ""))
	checkTags(t, "the second", second, modelChain(x))
	checkTags(t, "a third", x.Chain(), modelChain(x))
}

// P5.2: tags come in the order of their bytes, right or not; none comes ahead of itself.
func TestLess(t *testing.T) {
	bytewise := []Tag{{}, {Region: [3]byte{2: 1}}, {Region: [3]byte{1: 1}}, {Region: [3]byte{1}}, {Region: [3]byte{255, 255, 255}}, {Script: [4]byte{3: 1}}, {Script: [4]byte{1}}, {Script: [4]byte{127}}, {Script: [4]byte{128}}, {Lang: [3]byte{2: 1}}, {Lang: [3]byte{1}}, {Lang: [3]byte{128}}, {Lang: [3]byte{255}, Region: [3]byte{2: 1}}}
	for _, l := range [][]Tag{some(), bytewise} {
		for i, a := range l {
			for j, b := range l {
				if Less(a, b) != (i < j) {
					t.Errorf("Less(%q, %q) is %t", a, b, Less(a, b))
				}
			}
		}
	}
}

// P5.2: matches among none, among root alone, among several of one chain, among others.
func TestMatchWritten(t *testing.T) {
	de, at, latn, latnAT, ch := raw("de", "", ""), raw("de", "", "AT"), raw("de", "Latn", ""), raw("de", "Latn", "AT"), raw("de", "", "CH")
	for _, x := range []struct {
		wanted Tag
		have   []Tag
		want   Tag
		is     bool
	}{
		{at, nil, root, false},
		{at, []Tag{}, root, false},
		{root, nil, root, false},
		{at, []Tag{root}, root, true},
		{root, []Tag{root}, root, true},
		{root, []Tag{de, at}, root, false},
		{root, []Tag{de, root}, root, true},
		{at, []Tag{root, de}, de, true},
		{at, []Tag{de, root}, de, true},
		{latnAT, []Tag{root, de, latn, latnAT}, latnAT, true},
		{latnAT, []Tag{de, root, latn, de}, latn, true},
		{latnAT, []Tag{root, at, de, ch}, de, true},
		{latnAT, []Tag{at}, root, false},
		{at, []Tag{latn, latnAT, ch}, root, false},
		{de, []Tag{at, latn}, root, false},
		{at, []Tag{at, at}, at, true},
		{at, []Tag{raw("deu", "", ""), raw("DE", "", ""), raw("de", "", "at")}, root, false},
		{at, []Tag{raw("DE", "", ""), root}, root, true},
		{raw("de", "", "at"), []Tag{raw("de", "", "at"), de, root}, root, false},
		{raw("DE", "", ""), []Tag{raw("DE", "", ""), root}, root, false},
	} {
		have := slices.Clone(x.have)
		got, is := Match(x.wanted, have...)
		checkTag(t, "Match", got, is, x.want, x.is)
		checkTags(t, "handed in", have, x.have)
	}
}

// P5.2: matches of any tags among any others.
func TestMatch(t *testing.T) {
	next := random()
	for range 5000 {
		wanted, have := anyTag(next), make([]Tag, next(8))
		for i := range have {
			have[i] = anyTag(next)
		}
		want, wantIs := modelMatch(wanted, have)
		got, is := Match(wanted, have...)
		checkTag(t, "Match", got, is, want, wantIs)
	}
	many := slices.Repeat(some(), 50)
	got, is := Match(raw("zh", "Hant", "HK"), many...)
	checkTag(t, "Match among many", got, is, raw("zh", "Hant", ""), true)
}

// P5.2: what two have in common: equal ones, of one language, of root alone, and where one isn't right.
func TestCommonWritten(t *testing.T) {
	for _, x := range []struct{ a, b, want string }{
		{"de", "de", "de"}, {"zh-Hant-TW", "zh-Hant-TW", "zh-Hant-TW"}, {"root", "root", "root"}, {"de-419", "de-419", "de-419"},
		{"de-AT", "de-CH", "de"}, {"de", "de-AT", "de"}, {"de-Latn", "de-AT", "de"}, {"de-Latn-AT", "de-AT", "de"}, {"de-Latn-AT", "de-Runr-AT", "de"},
		{"zh-Hant-TW", "zh-Hant-HK", "zh-Hant"}, {"zh-Hant-TW", "zh-Hant", "zh-Hant"}, {"zh-Hant-TW", "zh-Hans-TW", "zh"},
		{"de", "fr", "root"}, {"de-AT", "deu-AT", "root"}, {"sr-Latn", "de-Latn", "root"}, {"de-AT", "root", "root"},
	} {
		a, _ := model(x.a)
		b, _ := model(x.b)
		want, _ := model(x.want)
		checkTag(t, "Common", Common(a, b), true, want, true)
		checkTag(t, "Common, turned", Common(b, a), true, want, true)
	}
	for _, x := range wrong() {
		for _, y := range append(some(), x, raw("DE", "", "")) {
			checkTag(t, "Common of a wrong one", Common(x, y), true, root, true)
			checkTag(t, "Common with a wrong one", Common(y, x), true, root, true)
		}
	}
}

// P5.2: what stands in whose chain: a tag itself, root, its parents, but none of others.
func TestBelow(t *testing.T) {
	all := slices.Concat(some(), wrong())
	for _, a := range all {
		for _, b := range all {
			if want := slices.Contains(modelChain(a), b); Below(a, b) != want {
				t.Errorf("Below(%q, %q) is %t", a, b, !want)
			}
		}
		if Below(a, a) != isRight(a) || Below(a, root) != isRight(a) {
			t.Errorf("of %q Below is %t of itself, %t of root", a, Below(a, a), Below(a, root))
		}
	}
	de, at := raw("de", "", ""), raw("de", "", "AT")
	if !Below(at, de) || Below(de, at) || !Below(root, root) || Below(root, de) || Below(raw("de", "Latn", "AT"), at) || Below(raw("deu", "", "AT"), de) {
		t.Error("written out")
	}
}

// P5.1, P5.2: wrong tags, handed to each function.
func TestWrong(t *testing.T) {
	for _, x := range wrong() {
		if x.Text() != "" || Right(x) || len(x.Chain()) > 0 || Below(x, x) || Below(x, root) || Below(root, x) || Below(raw("de", "Latn", "AT"), x) {
			t.Errorf("%q", x)
		}
		got, err := Of(x.Bytes())
		checkTag(t, "Of", got, err == api.ErrTag, root, true)
		got, is := x.Parent()
		checkTag(t, "Parent", got, is, root, false)
		got, is = Match(x, append(some(), x)...)
		checkTag(t, "Match", got, is, root, false)
		got, is = Match(raw("de", "Latn", "AT"), x)
		checkTag(t, "Match among it", got, is, root, false)
		checkTag(t, "Common", Common(x, x), true, root, true)
	}
}

// P5.3: a chain has at most four tags, each the parent of the one ahead; behind the last one there is none.
func TestChainFollows(t *testing.T) {
	for _, s := range texts() {
		x, err := Parse(s)
		if err != api.OK {
			continue
		}
		l := x.Chain()
		if len(l) < 1 || len(l) > 4 || l[0] != x || l[len(l)-1] != root {
			t.Fatalf("of %q Chain is %q", s, l)
		}
		for i, at := range l {
			got, is := at.Parent()
			if i == len(l)-1 {
				checkTag(t, "the last one's parent", got, is, root, false)
			} else {
				checkTag(t, "a parent", got, is, l[i+1], true)
			}
		}
	}
}

// P5.3: Common asks no order: it is the first of each one's chain that stands in the other one's.
func TestCommonFollows(t *testing.T) {
	next := random()
	for range 5000 {
		a, b := anyTag(next), anyTag(next)
		want, _ := modelMatch(a, modelChain(b))
		turned, _ := modelMatch(b, modelChain(a))
		checkTag(t, "the model", turned, true, want, true)
		checkTag(t, "Common", Common(a, b), true, want, true)
		checkTag(t, "Common, turned", Common(b, a), true, want, true)
	}
}

// P5.3: what is told is read as it was: by text, in any letters, and by bytes; unlike tags tell unlike texts.
func TestToldIsRead(t *testing.T) {
	told := map[string]Tag{}
	for _, s := range texts() {
		x, err := Parse(s)
		if err != api.OK {
			continue
		}
		got, err := Parse(x.Text())
		checkTag(t, "of its text", got, err == api.OK, x, true)
		got, err = Of(x.Bytes())
		checkTag(t, "of its bytes", got, err == api.OK, x, true)
		if x != root {
			got, err = Parse(strings.ToUpper(x.Text()))
			checkTag(t, "of its text in great letters", got, err == api.OK, x, true)
			got, err = Parse(strings.ToLower(x.Text()))
			checkTag(t, "of its text in small letters", got, err == api.OK, x, true)
		}
		if other, ok := told[x.Text()]; ok && other != x {
			t.Errorf("%q and %q tell both %q", x, other, x.Text())
		}
		told[x.Text()] = x
	}
}

// P2: the same calls in the same order have the same answers.
func TestSameAnswers(t *testing.T) {
	have := some()
	for range 200 {
		got, is := Match(raw("de", "Latn", "AT"), have...)
		checkTag(t, "Match", got, is, raw("de", "Latn", "AT"), true)
		checkTags(t, "Chain", raw("de", "Latn", "AT").Chain(), modelChain(raw("de", "Latn", "AT")))
	}
}
