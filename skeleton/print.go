package skeleton

import (
	"strings"

	"vulgate/api"
	"vulgate/name"
)

// tellText: could a text tell of that text there?
func (in around) tellText(s string) bool {
	for _, c := range []byte(s) {
		if !in.textByte(c) {
			return false
		}
	}
	return s != ""
}

// tellCases: could a text tell of a choice of a kind, with these cases, there?
func (in around) tellCases(kind int, l []Case) bool {
	if in.deep == MaxDeep {
		return false
	}
	words := map[string]struct{}{}
	for _, c := range l {
		if !caseWord(kind, c.Word) || !in.inside(kind).tell(c.Kids) {
			return false
		}
		words[c.Word] = struct{}{}
	}
	_, ok := words[other]
	return ok && len(words) == len(l)
}

// tellPart: could a text tell of that part there? What its kind doesn't use must be empty, since no text tells it.
func (in around) tellPart(n Node) bool {
	named := name.Right(n.Name)
	nameless := n.Name == name.Name{}
	switch n.Kind {
	case Text:
		return nameless && len(n.Cases) == 0 && in.tellText(n.Text)
	case Sign:
		return nameless && len(n.Cases) == 0 && n.Text == "" && in.plural
	case Arg, Number:
		return named && len(n.Cases) == 0 && n.Text == ""
	case Plural, Select:
		return named && n.Text == "" && in.tellCases(n.Kind, n.Cases)
	}
	return false
}

// tell: could a text tell of these parts there? Two texts beside each other would be read as one.
func (in around) tell(l []Node) bool {
	for i, n := range l {
		if n.Kind == Text && i > 0 && l[i-1].Kind == Text || !in.tellPart(n) {
			return false
		}
	}
	return true
}

// write writes parts of which a text could tell.
func write(b *strings.Builder, l []Node) {
	for _, n := range l {
		switch n.Kind {
		case Text:
			b.WriteString(n.Text)
		case Sign:
			b.WriteByte(signByte)
		default:
			writePlace(b, n)
		}
	}
}

// writePlace writes a value, a number or a choice.
func writePlace(b *strings.Builder, n Node) {
	b.WriteString("{" + n.Name.Text())
	if n.Kind != Arg {
		b.WriteString(", " + kinds[n.Kind])
	}
	for i, c := range n.Cases {
		if i == 0 {
			b.WriteByte(',')
		}
		b.WriteString(" " + c.Word + "{")
		write(b, c.Kids)
		b.WriteByte('}')
	}
	b.WriteByte('}')
}

// Print: the text of parts.
func Print(l []Node) (string, api.Errno) {
	if !(around{}).tell(l) {
		return "", api.ErrForm
	}
	var b strings.Builder
	write(&b, l)
	if b.Len() > api.MaxText {
		return "", api.ErrLong
	}
	return b.String(), api.OK
}
