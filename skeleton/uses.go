package skeleton

import (
	"bytes"
	"cmp"
	"maps"
	"slices"
	"strings"

	"vulgate/api"
)

// The bits of a signature.
const (
	asValue  = 1
	asNumber = 2
	asSelect = 4
)

// between stands between a signature's words.
const between = ","

// gather puts each use by itself into a set, of a select one for each word.
func gather(set map[Use]struct{}, l []Node) {
	for _, n := range l {
		switch n.Kind {
		case Arg:
			set[Use{Name: n.Name, How: asValue}] = struct{}{}
		case Number, Plural:
			set[Use{Name: n.Name, How: asNumber}] = struct{}{}
		}
		for _, c := range n.Cases {
			if n.Kind == Select {
				set[Use{Name: n.Name, How: asSelect, Words: strings.Clone(c.Word)}] = struct{}{}
			}
			gather(set, c.Kids)
		}
	}
}

// compare tells which of two uses comes first: by names, and of one name by words.
func compare(a, b Use) int {
	return cmp.Or(bytes.Compare(a.Name[:], b.Name[:]), strings.Compare(a.Words, b.Words), cmp.Compare(a.How, b.How))
}

// with: a use, and another one of that name, whose words come behind.
func (u Use) with(more Use) Use {
	u.How |= more.How
	if u.Words != "" {
		u.Words += between
	}
	u.Words += more.Words
	return u
}

// Uses: how all names are used.
func Uses(l []Node) []Use {
	if _, err := Print(l); err != api.OK {
		return nil
	}
	set := map[Use]struct{}{}
	gather(set, l)
	var all []Use
	for _, u := range slices.SortedFunc(maps.Keys(set), compare) {
		if last := len(all) - 1; last >= 0 && all[last].Name == u.Name {
			all[last] = all[last].with(u)
		} else {
			all = append(all, u)
		}
	}
	return all
}
