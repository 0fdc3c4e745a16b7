package cmap

import (
	"serif/api"
	"serif/peek"
)

// The forms of subtables.
const (
	formBytes     = 0  // a byte for each of 256 codes
	formSegments  = 4  // segments, each with a delta or with numbers of its own
	formRun       = 6  // a number for each code of one run
	formGroups    = 12 // groups whose glyphs rise with their codes
	formSame      = 13 // groups of one glyph each
	formSelectors = 14
)

const (
	byteCodes = 256
	wrap      = 1 << 16 // where a segment's glyphs begin again at 0
)

// subtable: all that the table has from a place on, and the form it begins with. The length that the subtable tells isn't asked for: what lies within the table may be read.
func subtable(v *peek.View, place int) (*peek.View, int, api.Errno) {
	sub, e := v.Cut(place, v.Len()-place)
	if e != api.OK {
		return nil, 0, api.ErrCmap
	}
	form, e := sub.U16(0)
	if e != api.OK {
		return nil, 0, api.ErrCmap
	}
	return sub, form, api.OK
}

// readFinder: the form of the subtable at a place, and what finds a code's glyph in it.
func readFinder(v *peek.View, place int) (form int, find func(code int) int, e api.Errno) {
	sub, form, e := subtable(v, place)
	if e != api.OK {
		return 0, nil, e
	}
	switch form {
	case formBytes:
		find, e = readBytes(sub)
	case formSegments:
		find, e = readSegments(sub)
	case formRun:
		find, e = readRun(sub)
	case formGroups, formSame:
		find, e = readGroups(sub, form == formGroups)
	default:
		e = api.ErrCmapKind
	}
	return form, find, e
}

// readBytes: what finds a glyph in form 0.
func readBytes(sub *peek.View) (func(code int) int, api.Errno) {
	list, e := sub.Cut(6, byteCodes)
	if e != api.OK {
		return nil, api.ErrCmap
	}
	return func(code int) int {
		glyph, _ := list.U8(code) // 0, if the list ends ahead of the code
		return glyph
	}, api.OK
}

// readSegments: what finds a glyph in form 4.
func readSegments(sub *peek.View) (func(code int) int, api.Errno) {
	double, e := sub.U16(6)
	if e != api.OK || double == 0 || double%2 != 0 {
		return nil, api.ErrCmap
	}
	count := double / 2
	if count > api.MaxGroups {
		return nil, api.ErrCmapMany
	}
	offsetsAt := 16 + 6*count
	offsets, e := sub.U16s(offsetsAt, count)
	if e != api.OK {
		return nil, api.ErrCmap
	}
	segments, e := segmentSpans(sub, count)
	if e != api.OK {
		return nil, e
	}
	return func(code int) int {
		i, ok := spanOf(segments, code)
		if !ok {
			return 0
		}
		number := code
		if offsets[i] != 0 {
			number, _ = sub.U16(offsetsAt + 2*i + offsets[i] + 2*(code-segments[i].start))
			if number == 0 { // so it is, too, where the table has ended
				return 0
			}
		}
		return (number + segments[i].value) % wrap
	}, api.OK
}

// segmentSpans: the segments of form 4, each with its delta; their offsets, which lie behind all of this, have been read.
func segmentSpans(sub *peek.View, count int) ([]span, api.Errno) {
	ends, _ := sub.U16s(14, count)
	starts, _ := sub.U16s(16+2*count, count)
	deltas, _ := sub.U16s(16+4*count, count)
	segments := make([]span, count)
	ahead := -1 // below any end
	for i := range segments {
		if ends[i] <= ahead || starts[i] > ends[i] {
			return nil, api.ErrCmap
		}
		segments[i] = span{starts[i], ends[i], deltas[i]}
		ahead = ends[i]
	}
	return segments, api.OK
}

// readRun: what finds a glyph in form 6.
func readRun(sub *peek.View) (func(code int) int, api.Errno) {
	first, e := sub.U16(6)
	if e != api.OK {
		return nil, api.ErrCmap
	}
	count, e := sub.U16(8)
	if e != api.OK {
		return nil, api.ErrCmap
	}
	list, e := sub.U16s(10, count)
	if e != api.OK {
		return nil, api.ErrCmap
	}
	return func(code int) int {
		if code < first || code >= first+count {
			return 0
		}
		return list[code-first]
	}, api.OK
}

// readGroups: what finds a glyph in form 12, where a group's glyphs rise with its codes, and in form 13, where they don't.
func readGroups(sub *peek.View, rise bool) (func(code int) int, api.Errno) {
	count, e := sub.U32(12)
	if e != api.OK {
		return nil, api.ErrCmap
	}
	if count > api.MaxGroups {
		return nil, api.ErrCmapMany
	}
	groups, e := readSpans(sub, 16, count, shape{12, tellGroup})
	if e != api.OK {
		return nil, e
	}
	return func(code int) int {
		i, ok := spanOf(groups, code)
		if !ok {
			return 0
		}
		if rise {
			return groups[i].value + code - groups[i].start
		}
		return groups[i].value
	}, api.OK
}

// tellGroup: a group's codes and glyph.
func tellGroup(b *peek.View) (span, bool) {
	start, _ := b.U32(0) // these three are there, since the group is
	end, _ := b.U32(4)
	glyph, _ := b.U32(8)
	return span{start, end, glyph}, start <= end && end <= api.MaxCode
}
