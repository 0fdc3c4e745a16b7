package cmap

import (
	"serif/api"
	"serif/peek"
)

const (
	selectorsAt   = 10
	selectorBytes = 11
)

// variants is what a variation selector does to codes: those of plain ranges keep their glyph, others have one of its own.
type variants struct{ plain, own []span }

// readSelectors: the selectors of the subtable at a place, by their codes.
func readSelectors(v *peek.View, place int) (map[int]variants, api.Errno) {
	sub, form, e := subtable(v, place)
	if e != api.OK {
		return nil, e
	}
	if form != formSelectors {
		return nil, api.ErrCmapKind
	}
	count, e := sub.U32(6)
	if e != api.OK {
		return nil, api.ErrCmap
	}
	if count > api.MaxGroups {
		return nil, api.ErrCmapMany
	}
	found := make(map[int]variants, count)
	room := api.MaxGroups // how many ranges and own glyphs may still come, whichever selector has them
	ahead := -1           // below any code
	for i := range count {
		b, e := sub.Cut(selectorsAt+selectorBytes*i, selectorBytes)
		if e != api.OK {
			return nil, api.ErrCmap
		}
		code, _ := b.U24(0) // it is there, since the row is
		if code <= ahead {
			return nil, api.ErrCmap
		}
		one, e := readSelector(sub, b, room)
		if e != api.OK {
			return nil, e
		}
		found[code] = one
		room -= len(one.plain) + len(one.own)
		ahead = code
	}
	return found, api.OK
}

// readSelector: what a row's selector does, if its lists have no more than room in all.
func readSelector(sub, b *peek.View, room int) (variants, api.Errno) {
	plainAt, _ := b.U32(3) // both are there, since the row is
	ownAt, _ := b.U32(7)
	plain, e := readList(sub, plainAt, room, shape{4, tellPlain})
	if e != api.OK {
		return variants{}, e
	}
	own, e := readList(sub, ownAt, room-len(plain), shape{5, tellOwn})
	if e != api.OK {
		return variants{}, e
	}
	return variants{plain, own}, api.OK
}

// readList: the list at a place of the subtable, where its number stands ahead of its rows; the place 0 says that there is none.
func readList(sub *peek.View, place, room int, s shape) ([]span, api.Errno) {
	if place == 0 {
		return nil, api.OK
	}
	count, e := sub.U32(place)
	if e != api.OK {
		return nil, api.ErrCmap
	}
	if count > room {
		return nil, api.ErrCmapMany
	}
	return readSpans(sub, place+4, count, s)
}

// tellPlain: a plain range's codes.
func tellPlain(b *peek.View) (span, bool) {
	start, _ := b.U24(0) // both are there, since the range is
	more, _ := b.U8(3)
	return span{start, start + more, 0}, true
}

// tellOwn: a code and the glyph that the selector has for it.
func tellOwn(b *peek.View) (span, bool) {
	code, _ := b.U24(0) // both are there, since the own glyph is
	glyph, _ := b.U16(3)
	return span{code, code, glyph}, true
}
