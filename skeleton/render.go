package skeleton

import (
	"slices"
	"strconv"
	"strings"

	"vulgate/api"
	"vulgate/name"
	"vulgate/plural"
	"vulgate/tag"
)

// renderer writes messages in a tag's language, with values by their names.
type renderer struct {
	text   strings.Builder
	tag    tag.Tag
	values map[name.Name]Value
}

// number writes one in decimal digits.
func (r *renderer) number(n uint64) {
	r.text.WriteString(strconv.FormatUint(n, 10))
}

// asked: the case of a plural that a number asks for.
func (r *renderer) asked(l []Case, n uint64) []Node {
	var have []int
	for _, c := range l {
		category, _ := plural.Read(c.Word)
		have = append(have, category)
	}
	category, _ := plural.Pick(r.tag, n, have...)
	return l[slices.Index(have, category)].Kids
}

// chosen: the case of a select that a text asks for.
func chosen(l []Case, text string) []Node {
	at := find(l, text)
	if at < 0 {
		at = find(l, other)
	}
	return l[at].Kids
}

// place writes what stands at a place, with its value; signs in it tell a number.
func (r *renderer) place(n Node, v Value, sign uint64) api.Errno {
	switch {
	case n.Kind == Plural:
		return r.message(r.asked(n.Cases, v.N), v.N)
	case n.Kind == Select:
		return r.message(chosen(n.Cases, v.Text), sign)
	case n.Kind == Arg && v.Text != "":
		r.text.WriteString(v.Text)
	default:
		r.number(v.N)
	}
	return api.OK
}

// message writes parts, up to a place whose name has no value; signs tell a number.
func (r *renderer) message(l []Node, sign uint64) api.Errno {
	for _, n := range l {
		switch n.Kind {
		case Text:
			r.text.WriteString(n.Text)
			continue
		case Sign:
			r.number(sign)
			continue
		}
		v, ok := r.values[n.Name]
		if !ok {
			return api.ErrNone
		}
		if err := r.place(n, v, sign); err != api.OK {
			return err
		}
	}
	return api.OK
}

// Render: a message with its values.
func Render(l []Node, t tag.Tag, values ...Value) (string, api.Errno) {
	if _, err := Print(l); err != api.OK {
		return "", err
	}
	r := renderer{tag: t, values: map[name.Name]Value{}}
	for _, v := range values {
		r.values[v.Name] = v
	}
	if err := r.message(l, 0); err != api.OK {
		return "", err
	}
	return r.text.String(), api.OK
}
