package manor

import (
	"slices"
	"strings"

	"manor/api"
)

const dot = "."

// name is what good labels make together. The three rows go side by side.
type name struct {
	labels []*label
	texts  []string
	forms  []string
}

// goodName is made of the labels' texts. If one of them is not good, the number
// is that of the first such.
func goodName(texts []string) (*name, int, api.Errno) {
	n := &name{}
	for number, text := range texts {
		l, form, errno := goodLabel(text)
		if errno != api.OK {
			return nil, number, errno
		}
		n.add(l, form)
	}
	if number, errno := n.fault(); errno != api.OK {
		return nil, number, errno
	}
	return n, 0, api.OK
}

func (n *name) add(l *label, form string) {
	n.labels = append(n.labels, l)
	n.texts = append(n.texts, l.String())
	n.forms = append(n.forms, form)
}

// fault is the first rule that the labels break together, and the number of the
// label that breaks it: 0, if it is all of them.
func (n *name) fault() (int, api.Errno) {
	if number := n.firstNotSided(); number >= 0 && n.asksForSides() {
		return number, api.ErrSide
	}
	if len(n.form()) > api.MaxName {
		return 0, api.ErrName
	}
	return 0, api.OK
}

func (n *name) asksForSides() bool {
	return slices.ContainsFunc(n.labels, func(l *label) bool { return l.asksForSides() })
}

// firstNotSided is the number of a label, or -1 if all are sided.
func (n *name) firstNotSided() int {
	return slices.IndexFunc(n.labels, func(l *label) bool { return !l.isSided() })
}

func (n *name) text() string { return strings.Join(n.texts, dot) }

func (n *name) form() string { return strings.Join(n.forms, dot) }
