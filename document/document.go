// Package document tells documents from what is none.
package document

import (
	"folio/api"
	"folio/number"
)

// Is tells whether d is a document.
func Is(d api.Document) bool {
	if !number.Within(len(d.Objects), 1, api.MaxObjects) {
		return false
	}
	if !number.Within(d.Root, 1, len(d.Objects)) || d.Objects[d.Root-1].Kind != api.Dict {
		return false
	}
	w := &walker{objects: len(d.Objects), nodes: len(d.Objects)}
	return w.all(d.Objects, 1)
}

// walker goes through the values of a document.
// Items may hold themselves, or be more than there is time for: so they are counted ahead of being gone through.
type walker struct {
	objects int
	nodes   int
}

// all tells whether each of these may stand as deep as that within its object, which itself is 1 deep.
func (w *walker) all(values []api.Value, deep int) bool {
	for _, v := range values {
		if !w.one(v, deep) {
			return false
		}
	}
	return true
}

func (w *walker) one(v api.Value, deep int) bool {
	w.nodes += len(v.Items)
	switch {
	case !number.Within(w.nodes, 1, api.MaxNodes), !number.Within(deep, 1, api.MaxDepth):
		return false
	case v.Kind == api.Stream && deep > 1:
		return false
	case v.Kind == api.Ref && !number.Within(v.N, 1, w.objects):
		return false
	}
	return isBare(v) && isRight(v) && w.all(v.Items, deep+1)
}
