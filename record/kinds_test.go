package record

import (
	"maps"
	"slices"
	"testing"

	"vulgate/api"
)

// checkKinds holds how many of each kind there are against what there must be, and the records handed in against what they were.
func checkKinds(t *testing.T, l []Rec, want map[uint8]int) {
	t.Helper()
	was := slices.Clone(l)
	if m := Kinds(l...); !maps.Equal(m, want) {
		t.Errorf("Kinds of %d records is %v, not %v", len(l), m, want)
	}
	if !slices.Equal(l, was) {
		t.Errorf("Kinds made of %#v %#v", was, l)
	}
}

// P10.2: Kinds of none, of right ones, and of those with an error among them.
func TestKinds(t *testing.T) {
	each := map[uint8]int{Project: 1, Grant: 1, Locale: 1, Branch: 1, Source: 2, Trans: 1}
	checkKinds(t, nil, nil)
	checkKinds(t, []Rec{}, nil)
	checkKinds(t, oneEach(), each)
	checkKinds(t, wrongOnes(), nil)
	checkKinds(t, slices.Concat(wrongOnes(), oneEach(), wrongOnes()), each)
	checkKinds(t, []Rec{{Kind: Locale}, {Kind: Project}, {Kind: Locale}, {}}, map[uint8]int{Locale: 2, Project: 1})
	checkKinds(t, []Rec{{Kind: Source}, {Kind: Source, Rev: 1}, {Kind: Source, Rev: 1, Gone: true, Text: "a"}, {Kind: Source, Rev: 1}}, map[uint8]int{Source: 2})
	checkKinds(t, slices.Repeat([]Rec{{Kind: Grant, Mask: 1}, {Kind: Grant}}, 1000), map[uint8]int{Grant: 1000})
	for _, r := range rightOnes() {
		checkKinds(t, []Rec{r}, map[uint8]int{r.Kind: 1})
	}
	for _, r := range wrongOnes() {
		checkKinds(t, []Rec{r}, nil)
	}
}

// P10.2: rows of right and wrong ones made by chance.
func TestKindsSome(t *testing.T) {
	var c chance
	all := append(oneEach(), wrongOnes()...)
	for range 1000 {
		l := c.some(all, c.below(40))
		want := map[uint8]int{}
		for _, r := range l {
			if modelCheck(r) == api.OK {
				want[r.Kind]++
			}
		}
		checkKinds(t, l, want)
	}
}

// P2, P10.2: the same answer again, of new memory.
func TestKindsAgain(t *testing.T) {
	for range 5 {
		m := Kinds(Rec{Kind: Locale}, Rec{Kind: Locale})
		if len(m) != 1 || m[Locale] != 2 {
			t.Fatalf("%v", m)
		}
		m[Locale], m[Trans] = 9, 9
	}
}
