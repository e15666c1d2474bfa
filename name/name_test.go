package name

import (
	"fmt"
	"maps"
	"regexp"
	"slices"
	"strings"
	"testing"

	"vulgate/api"
)

// right is what a name's text is by the chapter's words.
var right = regexp.MustCompile(`\A[a-z][a-z0-9_.-]{0,11}\z`)

// most is a name of the greatest length, with each kind of byte.
const most = "az09-_.bcdef"

// array is a text's bytes, and 0 behind them, whatever they are.
func array(s string) Name {
	var n Name
	copy(n[:], s)
	return n
}

// arrays are those of some texts.
func arrays(texts ...string) []Name {
	var l []Name
	for _, s := range texts {
		l = append(l, array(s))
	}
	return l
}

// numbered are names of rising numbers, as many, in order.
func numbered(many int) []Name {
	var l []Name
	for i := range many {
		l = append(l, array(fmt.Sprintf("n%04d", i)))
	}
	return l
}

// some are right names, in order.
func some() []Name {
	return arrays("a", "a-", "a.", "a.b-c", "a0", "a9", "a_", "aa", "aaaaaaaaaaaa", "aaaaaaaaaaab", "ab", most, "b", "b-------", "ba", "z", "z9", "zzzzzzzzzzzz")
}

// wrong are arrays that are no names.
func wrong() []Name {
	l := arrays("", "A", "1a", "-a", "_a", ".a", "aB", "a b", "a/b", "a=b", "a\n", "\xff", "a\xff", "ü", "aü", "a\x00b", "a\x00\x00\x00\x00\x00\x00\x00\x00\x00\x00b", "\x00a", "\x00", "\x00bcdefghijkl", "abcdefghijk\x01", "abcdefghijk ")
	return append(l, Name{11: 'a'}, Name{0: 'a', 11: 'a'}, Name{0: 'a', 2: 1})
}

// texts are those that the tests go through: each byte at each place, of each length.
func texts() []string {
	l := []string{"", "a.b-c", "abcdefghijklm", "abcdefghijkl\x00", most + "g", most + ".", "Abc", "hello world", "über", "aü", "a\x00", "a\x00b", "\x00a", " a", "a ", "a\n", "\na", "root", "...", "a..", strings.Repeat("a", 200), strings.Repeat("a", 1<<16), strings.Repeat("\x00", 12)}
	for c := range 256 {
		for size := range 14 {
			for i := range size {
				b := slices.Repeat([]byte{'b'}, size)
				b[i] = byte(c)
				l = append(l, string(b))
			}
		}
	}
	return l
}

// random tells numbers that look like chance, the same in each run.
func random() func(below int) int {
	w := uint64(1)
	return func(below int) int {
		w = w*6364136223846793005 + 1442695040888963407
		return int(w >> 33 % uint64(below))
	}
}

// anyName is an array of few kinds of bytes, about half of them right names.
func anyName(next func(below int) int) Name {
	var n Name
	b, size := "aabz09-_.", next(13)
	if next(3) == 0 {
		b, size = "ab\x00A1", 12
	}
	for i := range size {
		n[i] = b[next(len(b))]
	}
	return n
}

// isRight tells of an array whether it is a name, by the chapter's words.
func isRight(n Name) bool {
	return right.MatchString(strings.TrimRight(string(n[:]), "\x00"))
}

// P4.1: the texts that are names, and those that aren't: each byte at each place, of each length.
func TestParse(t *testing.T) {
	for _, s := range texts() {
		want, wantErr := array(s), api.OK
		if !right.MatchString(s) {
			want, wantErr = Name{}, api.ErrName
		}
		if got, err := Parse(s); got != want || err != wantErr {
			t.Errorf("Parse(%.40q) is %q, %d, not %q, %d", s, got, err, want, wantErr)
		}
	}
}

// P4.1: the chapter's examples, the lengths and the bytes that it names, written out.
func TestParseWritten(t *testing.T) {
	for s, want := range map[string]Name{
		"a": {'a'}, "z": {'z'}, "a.b-c": {'a', '.', 'b', '-', 'c'}, "a0_9": {'a', '0', '_', '9'}, "a-": {'a', '-'}, "a.": {'a', '.'},
		"abcdefghijkl": {'a', 'b', 'c', 'd', 'e', 'f', 'g', 'h', 'i', 'j', 'k', 'l'}, "aaaaaaaaaaa": {'a', 'a', 'a', 'a', 'a', 'a', 'a', 'a', 'a', 'a', 'a'},
	} {
		if got, err := Parse(s); got != want || err != api.OK {
			t.Errorf("Parse(%q) is %q, %d", s, got, err)
		}
	}
	for _, s := range []string{"", "1a", "A", "abcdefghijklm", "0", "9", "-", "_", ".", "-a", "_a", ".a", "`", "{", "a`", "a{", "a/", "a:", "a,", "a^", "a@", "a[", "aZ", "a~", "a b", "a\x00", "\x00", "\x00a", "a\x7f", "a\x80", "a\xff", "ä", "aä", "K"} {
		if got, err := Parse(s); got != (Name{}) || err != api.ErrName {
			t.Errorf("Parse(%q) is %q, %d", s, got, err)
		}
	}
}

// P4.1: the text of a right name, and whether it is one.
func TestText(t *testing.T) {
	for _, s := range texts() {
		if len(s) > 12 {
			continue
		}
		n, want := array(s), strings.TrimRight(s, "\x00") // bytes 0 at a text's end are those behind it
		if !right.MatchString(want) {
			want = ""
		}
		if n.Text() != want || Right(n) != (want != "") {
			t.Errorf("of %q Text is %q, Right %t", n, n.Text(), Right(n))
		}
	}
	for _, n := range some() {
		if want := strings.TrimRight(string(n[:]), "\x00"); n.Text() != want || !Right(n) {
			t.Errorf("of %q Text is %q, Right %t", n, n.Text(), Right(n))
		}
	}
	for _, n := range wrong() {
		if n.Text() != "" || Right(n) {
			t.Errorf("of %q Text is %q, Right %t", n, n.Text(), Right(n))
		}
	}
}

// P4.1: arrays with bytes behind the first byte 0, at each place, aren't right; without any byte 0 they may be.
func TestHoles(t *testing.T) {
	for size := range 13 {
		n := array(most[:size])
		if Right(n) != (size > 0) || n.Text() != most[:size] {
			t.Errorf("of %q Text is %q, Right %t", n, n.Text(), Right(n))
		}
		for i := size + 1; i < len(n); i++ {
			for _, c := range []byte{1, ' ', 'a', 'A', '.', 255} {
				hole := n
				hole[i] = c
				if Right(hole) || hole.Text() != "" {
					t.Errorf("of %q Text is %q, Right %t", hole, hole.Text(), Right(hole))
				}
			}
		}
	}
}

// P4.1, P1: arrays of any bytes are right just by the chapter's words.
func TestAnyArray(t *testing.T) {
	next, many := random(), 0
	for range 20000 {
		n := anyName(next)
		if want := isRight(n); Right(n) != want || (n.Text() != "") != want {
			t.Errorf("of %q Text is %q, Right %t", n, n.Text(), Right(n))
		} else if want {
			many++
		}
	}
	if many < 2000 || many > 18000 {
		t.Errorf("%d were right: too few of one kind", many)
	}
}

// P4.1: names come in the order of their bytes, be they right or not; none comes ahead of itself.
func TestLess(t *testing.T) {
	l := some()
	for i, a := range l {
		for j, b := range l {
			if Less(a, b) != (i < j) {
				t.Errorf("Less(%q, %q) is %t", a, b, Less(a, b))
			}
		}
	}
	rising := append([]Name{{}, {11: 1}, {10: 1}, {0: 1}, {0: 127}}, Name{0: 128}, Name{0: 255}, Name{0: 255, 11: 1})
	for i, a := range rising {
		for j, b := range rising {
			if Less(a, b) != (i < j) {
				t.Errorf("Less(%v, %v) is %t", a, b, Less(a, b))
			}
		}
	}
	if a, b := array("a"), array("ab"); !Less(a, b) || Less(b, a) || !Less(b, array("b")) || Less(array("b"), b) {
		t.Error("the chapter's example")
	}
}

// checkNames holds names against what they must be.
func checkNames(t *testing.T, what string, got, want []Name) {
	t.Helper()
	if !slices.Equal(got, want) {
		t.Errorf("%s: %q, not %q", what, got, want)
	}
}

// P4.1: the right ones of a list in order, each as often as it stands there.
func TestSort(t *testing.T) {
	checkNames(t, "none", Sort(), nil)
	checkNames(t, "of nil", Sort([]Name(nil)...), nil)
	checkNames(t, "wrong ones", Sort(wrong()...), nil)
	checkNames(t, "one", Sort(array("b")), arrays("b"))
	checkNames(t, "as often", Sort(arrays("b", "a", "B", "b", "", "a", "ab", "b")...), arrays("a", "a", "ab", "b", "b", "b"))
	checkNames(t, "in order already", Sort(some()...), some())
	turned := append(some(), wrong()...)
	slices.Reverse(turned)
	checkNames(t, "turned", Sort(turned...), some())
	many := append(numbered(200), numbered(200)...)
	for i, n := range Sort(many...) {
		if n != many[i/2] {
			t.Errorf("of many, at %d stands %q, not %q", i, n, many[i/2])
		}
	}
	checkMany(t, "how many are sorted", len(Sort(many...)), len(many))
}

// P4.1: lists of any names, sorted as a plain model does.
func TestSortAny(t *testing.T) {
	next := random()
	for range 500 {
		var l []Name
		var want []string
		for range next(40) {
			n := anyName(next)
			if l = append(l, n); isRight(n) {
				want = append(want, strings.TrimRight(string(n[:]), "\x00"))
			}
		}
		slices.Sort(want)
		checkNames(t, "sorted", Sort(l...), arrays(want...))
	}
}

// P4.1: what is sorted is new memory, and the list that was handed in stays as it was, its spare room too.
func TestSortNewMemory(t *testing.T) {
	l := arrays("c", "A", "b", "a", "d")
	first, second := Sort(l[:4]...), Sort(l[:4]...)
	checkNames(t, "handed in", l, arrays("c", "A", "b", "a", "d"))
	for i := range first {
		first[i] = Name{}
	}
	_ = append(second[:1], array("x"))
	_ = append(first, array("y"))
	checkNames(t, "handed in", l, arrays("c", "A", "b", "a", "d"))
	checkNames(t, "the second", second, arrays("a", "x", "c"))
	sorted := some()
	Sort(sorted...)[0] = Name{}
	checkNames(t, "in order already", sorted, some())
}

// checkSet holds all that a set tells against the names that it must hold.
func checkSet(t *testing.T, s *Set, want []Name) {
	t.Helper()
	checkNames(t, "List", s.List(), want)
	if s.Len() != len(want) {
		t.Errorf("Len is %d, not %d", s.Len(), len(want))
	}
	for _, n := range slices.Concat(some(), wrong(), numbered(80)) {
		if s.Has(n) != slices.Contains(want, n) {
			t.Errorf("Has(%q) is %t", n, s.Has(n))
		}
	}
}

// checkMany holds how many a call tells against what it must.
func checkMany(t *testing.T, what string, got, want int) {
	t.Helper()
	if got != want {
		t.Errorf("%s is %d, not %d", what, got, want)
	}
}

// P4.2: names are added and deleted, one behind the other; those that aren't right, and those that are held, aren't added.
func TestSet(t *testing.T) {
	var s Set
	checkSet(t, &s, nil)
	checkMany(t, "Add of none", s.Add(), 0)
	checkMany(t, "Del of none", s.Del(), 0)
	checkMany(t, "Del of an empty set", s.Del(arrays("a", "", "A")...), 0)
	checkSet(t, &s, nil)
	checkMany(t, "Add of wrong ones", s.Add(wrong()...), 0)
	checkSet(t, &s, nil)
	checkMany(t, "Add", s.Add(arrays("b", "A", "a", "b", "", "ab", "a")...), 3)
	checkSet(t, &s, arrays("a", "ab", "b"))
	checkMany(t, "Add again", s.Add(arrays("a", "b", "ab", "z")...), 1)
	checkSet(t, &s, arrays("a", "ab", "b", "z"))
	checkMany(t, "Del of wrong ones", s.Del(wrong()...), 0)
	checkMany(t, "Del of others", s.Del(arrays("a-", "c", "zz")...), 0)
	checkSet(t, &s, arrays("a", "ab", "b", "z"))
	checkMany(t, "Del, one of them twice", s.Del(arrays("b", "A", "b", "c", "a", "b")...), 2)
	checkSet(t, &s, arrays("ab", "z"))
	checkMany(t, "Add of one that was held", s.Add(array("b")), 1)
	checkSet(t, &s, arrays("ab", "b", "z"))
	checkMany(t, "Del of all", s.Del(some()...), 3)
	checkSet(t, &s, nil)
	checkMany(t, "Add behind all", s.Add(some()...), len(some()))
	checkSet(t, &s, some())
}

// P4.2: with 63 names one more is held, with 64 none; who is deleted makes room.
func TestSetFull(t *testing.T) {
	l := numbered(80)
	var s Set
	checkMany(t, "Add of 63", s.Add(l[:63]...), 63)
	checkSet(t, &s, l[:63])
	checkMany(t, "Add of wrong ones to 63", s.Add(wrong()...), 0)
	checkMany(t, "Add of held ones to 63", s.Add(l[:63]...), 0)
	checkMany(t, "Add of a 64th, with others around", s.Add(Name{}, l[5], l[70], l[70], l[71], l[6], l[63]), 1)
	checkSet(t, &s, append(slices.Clone(l[:63]), l[70]))
	checkMany(t, "Add of a 65th", s.Add(l[63]), 0)
	checkMany(t, "Add of held ones to 64", s.Add(l[0], l[70]), 0)
	checkSet(t, &s, append(slices.Clone(l[:63]), l[70]))
	checkMany(t, "Del of two", s.Del(l[70], l[71], l[0]), 2)
	checkSet(t, &s, l[1:63])
	checkMany(t, "Add of the last ones", s.Add(l[63:]...), 2)
	checkSet(t, &s, l[1:65])
	checkMany(t, "Del of all", s.Del(l...), 64)
	checkSet(t, &s, nil)
	checkMany(t, "Add of 80, twice each", s.Add(append(slices.Clone(l), l...)...), 64)
	checkSet(t, &s, l[:64])
	var turned Set
	slices.Reverse(l)
	checkMany(t, "Add of 80, turned", turned.Add(l...), 64)
	slices.Reverse(l)
	checkSet(t, &turned, l[16:])
	checkMany(t, "Most", Most, 64)
}

// P4.2: whatever is done with a set, it tells what a plain model does.
func TestSetAny(t *testing.T) {
	next, names := random(), append(numbered(70), wrong()[:6]...)
	var s Set
	var held []Name
	for range 3000 {
		n, del := names[next(len(names))], next(5) == 0
		m := names[next(len(names))]
		want := 0
		for _, x := range []Name{n, m, n} {
			i, ok := slices.BinarySearchFunc(held, x, func(a, b Name) int { return strings.Compare(string(a[:]), string(b[:])) })
			switch {
			case del && ok:
				held, want = slices.Delete(held, i, i+1), want+1
			case !del && !ok && isRight(x) && len(held) < 64:
				held, want = slices.Insert(held, i, x), want+1
			}
		}
		if del {
			checkMany(t, "Del", s.Del(n, m, n), want)
		} else {
			checkMany(t, "Add", s.Add(n, m, n), want)
		}
		checkNames(t, "List", s.List(), held)
		checkMany(t, "Len", s.Len(), len(held))
	}
}

// P4.2: what a set tells is new memory; what is handed in is neither kept nor changed; sets have nothing in common.
func TestSetNewMemory(t *testing.T) {
	var s, other Set
	l := arrays("c", "b", "A", "a")
	s.Add(l...)
	checkNames(t, "handed in", l, arrays("c", "b", "A", "a"))
	l[0] = array("z")
	checkSet(t, &s, arrays("a", "b", "c"))
	first, second := s.List(), s.List()
	first[0] = array("y")
	_ = append(first, array("x"))
	_ = append(second[:1], array("w"))
	checkSet(t, &s, arrays("a", "b", "c"))
	checkNames(t, "the first", first, arrays("y", "b", "c"))
	checkSet(t, &other, nil)
	other.Add(array("z"))
	gone := arrays("b", "a", "b")
	s.Del(gone...)
	checkNames(t, "handed in", gone, arrays("b", "a", "b"))
	checkSet(t, &s, arrays("c"))
	checkSet(t, &other, arrays("z"))
}

// checkCount holds counts against what they must be.
func checkCount(t *testing.T, got, want map[Name]int) {
	t.Helper()
	if !maps.Equal(got, want) {
		t.Errorf("Count is %v, not %v", got, want)
	}
}

// P4.2: how often each right one stands in a list, without entries for others.
func TestCount(t *testing.T) {
	checkCount(t, Count(), nil)
	checkCount(t, Count([]Name(nil)...), nil)
	checkCount(t, Count(wrong()...), nil)
	checkCount(t, Count(array("a")), map[Name]int{array("a"): 1})
	checkCount(t, Count(arrays("b", "a", "A", "b", "", "b", "ab", "A")...), map[Name]int{array("a"): 1, array("ab"): 1, array("b"): 3})
	want := map[Name]int{}
	for _, n := range numbered(100) {
		want[n] = 2
	}
	l := append(numbered(100), numbered(100)...)
	checkCount(t, Count(l...), want)
	checkNames(t, "handed in", l, append(numbered(100), numbered(100)...))
	Count(l...)[l[0]] = 9
	checkCount(t, Count(l...), want)
	next := random()
	for range 300 {
		l, want := make([]Name, next(60)), map[Name]int{}
		for i := range l {
			if l[i] = anyName(next); isRight(l[i]) {
				want[l[i]]++
			}
		}
		checkCount(t, Count(l...), want)
	}
}

// P4.3: unlike names have unlike texts, in the same order; each is the name of its text.
func TestTextOrder(t *testing.T) {
	next, l := random(), some()
	for len(l) < 300 {
		if n := anyName(next); isRight(n) {
			l = append(l, n)
		}
	}
	for _, a := range l {
		if n, err := Parse(a.Text()); n != a || err != api.OK {
			t.Errorf("of the text of %q the name is %q, %d", a, n, err)
		}
		for _, b := range l {
			if (a == b) != (a.Text() == b.Text()) || Less(a, b) != (a.Text() < b.Text()) {
				t.Errorf("%q and %q have the texts %q and %q", a, b, a.Text(), b.Text())
			}
		}
	}
}

// P4.3: a nil set tells 0, false, nothing.
func TestNilSet(t *testing.T) {
	var s *Set
	for range 2 {
		checkSet(t, s, nil)
		checkMany(t, "Add", s.Add(some()...), 0)
		checkMany(t, "Add of none", s.Add(), 0)
		checkMany(t, "Add of wrong ones", s.Add(wrong()...), 0)
		checkMany(t, "Del", s.Del(some()...), 0)
		checkMany(t, "Del of none", s.Del(), 0)
	}
}

// P2: the same calls in the same order have the same answers.
func TestSameAnswers(t *testing.T) {
	var first Set
	first.Add(numbered(64)...)
	for range 50 {
		var s Set
		checkMany(t, "Add", s.Add(numbered(64)...), 64)
		checkNames(t, "List", s.List(), first.List())
	}
}
