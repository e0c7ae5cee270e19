package print

import (
	"strings"

	"mullion/api"
)

// writer holds the text of a sound tree, as far as it is written.
type writer struct {
	text strings.Builder
	tabs int // as many stand ahead of a line that begins now
}

// put writes texts, one behind the other.
func (w *writer) put(texts ...string) {
	for _, s := range texts {
		w.text.WriteString(s)
	}
}

// newLine ends a line, and begins the next one.
func (w *writer) newLine() {
	w.put("\n", strings.Repeat("\t", w.tabs))
}

// list writes parts with a comma and a blank between.
func (w *writer) list(parts []api.Node, part func(api.Node)) {
	for i, p := range parts {
		if i > 0 {
			w.put(", ")
		}
		part(p)
	}
}

// lines writes parts, each on a line of its own, so many tabs deeper.
func (w *writer) lines(parts []api.Node, deeper int, part func(api.Node)) {
	w.tabs += deeper
	for _, p := range parts {
		w.newLine()
		part(p)
	}
	w.tabs -= deeper
}

// braces writes { and }, and parts as lines between.
func (w *writer) braces(parts []api.Node, deeper int, part func(api.Node)) {
	w.put("{")
	w.lines(parts, deeper, part)
	w.newLine()
	w.put("}")
}

// either answers the text that n's N tells of: the first one of 0, the second one of 1.
func either(n api.Node, zero, one string) string {
	if n.N == 0 {
		return zero
	}
	return one
}
