package skeleton

import "slices"

// pair is of two lists that are held against each other.
type pair struct{ a, b []Node }

// firsts are the first parts of a pair's lists, by which these are known, and how many parts they have.
type firsts struct {
	a, b *Node
	many int
}

// firsts: those of two lists of as many parts; of lists without parts there are none.
func (p pair) firsts() firsts {
	if len(p.a) == 0 {
		return firsts{}
	}
	return firsts{a: &p.a[0], b: &p.b[0], many: len(p.a)}
}

// within: the pairs of lists that stand in the cases of parts that are the same.
func (p pair) within() []pair {
	var l []pair
	for i, n := range p.a {
		for k, c := range n.Cases {
			l = append(l, pair{c.Kids, p.b[i].Cases[k].Kids})
		}
	}
	return l
}

// samePart: are two parts the same, but for what stands in their cases?
func samePart(a, b Node) bool {
	sameWord := func(c, d Case) bool { return c.Word == d.Word }
	return a.Kind == b.Kind && a.Text == b.Text && a.Name == b.Name && slices.EqualFunc(a.Cases, b.Cases, sameWord)
}

// Same: the same parts? A list may stand within itself, so no pair is gone into twice.
func Same(a, b []Node) bool {
	met := map[firsts]struct{}{}
	todo := []pair{{a, b}}
	for len(todo) > 0 {
		p := todo[len(todo)-1]
		todo = todo[:len(todo)-1]
		if !slices.EqualFunc(p.a, p.b, samePart) {
			return false
		}
		if _, ok := met[p.firsts()]; !ok {
			met[p.firsts()] = struct{}{}
			todo = append(todo, p.within()...)
		}
	}
	return true
}
