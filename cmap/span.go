package cmap

import (
	"cmp"
	"slices"

	"serif/api"
	"serif/peek"
)

// span is the codes from start to end, and what is told of them: the first one's glyph in a group, a segment's delta, a selector's own glyph; nothing of a plain range.
type span struct{ start, end, value int }

// spanOf: which of the spans, whose ends rise, the code is in: the first one that doesn't end below it, if that one doesn't start above it.
func spanOf(spans []span, code int) (int, bool) {
	i, _ := slices.BinarySearchFunc(spans, code, func(s span, code int) int { return cmp.Compare(s.end, code) })
	return i, i < len(spans) && spans[i].start <= code
}

// shape says how a row of a list is a span: how many bytes it has, and what they tell, right or not.
type shape struct {
	size int
	tell func(b *peek.View) (span, bool)
}

// readSpans: so many rows of a shape from a place on. ErrCmap, if one isn't there or isn't right, or starts not above the end of the one ahead of it.
func readSpans(sub *peek.View, at, count int, s shape) ([]span, api.Errno) {
	spans := make([]span, count)
	ahead := -1 // below any code
	for i := range spans {
		b, e := sub.Cut(at+s.size*i, s.size)
		if e != api.OK {
			return nil, api.ErrCmap
		}
		one, right := s.tell(b)
		if !right || one.start <= ahead {
			return nil, api.ErrCmap
		}
		spans[i] = one
		ahead = one.end
	}
	return spans, api.OK
}
