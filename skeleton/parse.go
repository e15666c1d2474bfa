package skeleton

import (
	"strings"

	"vulgate/api"
	"vulgate/name"
)

// reader reads a text up to the first place that is wrong.
type reader struct {
	s   string
	at  int
	err api.Errno
}

// next: the byte that comes; at the end, and where something was wrong, 0, with which nothing goes on.
func (r *reader) next() byte {
	if r.err != api.OK || r.at == len(r.s) {
		return 0
	}
	return r.s[r.at]
}

// fail: a place is wrong, unless one ahead was.
func (r *reader) fail(at int, err api.Errno) {
	if r.err == api.OK {
		r.at, r.err = at, err
	}
}

// take reads a byte that must come.
func (r *reader) take(c byte) {
	if r.next() != c {
		r.fail(r.at, api.ErrForm)
		return
	}
	r.at++
}

// while reads bytes as long as they may stand. They are copied, since an answer shares no memory with what is handed in.
func (r *reader) while(may func(c byte) bool) string {
	from := r.at
	for may(r.next()) {
		r.at++
	}
	return strings.Clone(r.s[from:r.at])
}

// word reads a name, or a word; what is wrong with it is told of its beginning.
func (r *reader) word(wrong func(s string) api.Errno) string {
	from := r.at
	s := r.while(wordByte)
	if s == "" {
		r.fail(from, api.ErrForm)
		return ""
	}
	if err := wrong(s); err != api.OK {
		r.fail(from, err)
	}
	return s
}

// comma reads one, and the blanks behind it.
func (r *reader) comma() {
	r.take(',')
	r.blanks()
}

// blanks reads any number of them.
func (r *reader) blanks() {
	r.while(func(c byte) bool { return c == ' ' })
}

// braced reads {, what is read within, and }.
func (r *reader) braced(within func()) {
	r.take('{')
	within()
	r.take('}')
}

// name reads one.
func (r *reader) name() (n name.Name) {
	r.word(func(s string) (err api.Errno) {
		n, err = name.Parse(s)
		return err
	})
	return n
}

// kind reads a kind's word.
func (r *reader) kind(in around) (kind int) {
	r.word(func(s string) api.Errno {
		kind = kindOf(s)
		switch {
		case kind == Text:
			return api.ErrKind
		case choice(kind) && in.deep == MaxDeep:
			return api.ErrDeep
		}
		return api.OK
	})
	return kind
}

// cases reads those of a choice of a kind, up to the choice's }.
func (r *reader) cases(kind int, in around) []Case {
	var l []Case
	wrong := func(word string) api.Errno {
		switch {
		case !caseWord(kind, word):
			return api.ErrName
		case find(l, word) >= 0:
			return api.ErrTwice
		}
		return api.OK
	}
	for wordByte(r.next()) {
		c := Case{Word: r.word(wrong)}
		r.braced(func() { c.Kids = r.message(in.inside(kind)) })
		l = append(l, c)
		r.blanks()
	}
	if r.next() == '}' && find(l, other) < 0 {
		r.fail(r.at, api.ErrSkel)
	}
	return l
}

// place reads what stands from { to }: a value, a number or a choice.
func (r *reader) place(in around) Node {
	n := Node{Kind: Arg}
	r.braced(func() {
		n.Name = r.name()
		if r.next() != ',' {
			return
		}
		r.comma()
		n.Kind = r.kind(in)
		if choice(n.Kind) {
			r.comma()
			n.Cases = r.cases(n.Kind, in)
		}
	})
	return n
}

// message reads parts as long as one comes.
func (r *reader) message(in around) []Node {
	var l []Node
	for {
		switch c := r.next(); {
		case c == '{':
			l = append(l, r.place(in))
		case c == signByte && in.plural:
			r.take(c)
			l = append(l, Node{Kind: Sign})
		case in.textByte(c):
			l = append(l, Node{Kind: Text, Text: r.while(in.textByte)})
		default:
			return l
		}
	}
}

// Parse: the parts of a text; where something is wrong, and what.
func Parse(s string) ([]Node, int, api.Errno) {
	if len(s) > api.MaxText {
		return nil, 0, api.ErrLong
	}
	r := reader{s: s}
	l := r.message(around{})
	if r.at < len(s) {
		r.fail(r.at, api.ErrForm)
	}
	if r.err != api.OK {
		return nil, r.at, r.err
	}
	return l, 0, api.OK
}
