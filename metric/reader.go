package metric

import (
	"serif/api"
	"serif/peek"
	"serif/sfnt"
)

const (
	headMagic  = 95<<24 | 15<<16 | 60<<8 | 245
	maxpShort  = 80 << 8
	maxpLong   = 1 << 16
	formHalves = 0 // loca says half of each place, in two bytes
	formWholes = 1 // loca says each place, in four bytes
)

// reader takes the measures out of a font, a table after the other. What isn't right it gives up by a panic with the error's number, which Read catches.
type reader struct {
	*sfnt.Font
	found api.Metrics
}

// head: reads the units; answers the form of loca.
func (r *reader) head() int {
	head := r.need("head", 54)
	ask(number(head.U32(12)) == headMagic, api.ErrMetric)
	r.found.Units = number(head.U16(18))
	ask(unitsRight(r.found.Units), api.ErrMetric)
	form := number(head.U16(50))
	ask(form == formHalves || form == formWholes, api.ErrMetric)
	ask(number(head.U16(52)) == 0, api.ErrVersion)
	return form
}

// maxp: reads how many glyphs there are.
func (r *reader) maxp() {
	maxp := r.need("maxp", 6)
	version := number(maxp.U32(0))
	ask(version == maxpShort || version == maxpLong, api.ErrVersion)
	r.found.Glyphs = number(maxp.U16(4))
	ask(r.found.Glyphs >= 1, api.ErrMetric)
	ask(r.found.Glyphs <= api.MaxGlyphs, api.ErrGlyphs)
}

// hhea: reads the measures of a line; answers the number of wide rows.
func (r *reader) hhea() int {
	hhea := r.need("hhea", 36)
	r.found.Ascent = number(hhea.I16(4))
	r.found.Descent = number(hhea.I16(6))
	r.found.Gap = number(hhea.I16(8))
	wide := number(hhea.U16(34))
	ask(wide >= 1 && wide <= r.found.Glyphs, api.ErrMetric)
	return wide
}

// hmtx: reads each glyph's advance and bearing, of which so many stand in wide rows.
func (r *reader) hmtx(wide int) {
	hmtx := r.need("hmtx", 4*wide+2*(r.found.Glyphs-wide))
	r.found.Advances = make([]int, r.found.Glyphs)
	r.found.Bearings = make([]int, r.found.Glyphs)
	for g := range r.found.Glyphs {
		row := min(g, wide-1)
		r.found.Advances[g] = number(hmtx.U16(4 * row))
		// Behind the last wide row's bearing the others follow, two bytes each.
		r.found.Bearings[g] = number(hmtx.I16(4*row + 2 + 2*(g-row)))
	}
}

// outlines: asks for the tables of the font's kind, and reads the outlines' places, if the kind has any.
func (r *reader) outlines(form int) {
	r.found.Kind = r.Kind()
	if r.found.Kind != api.KindGlyf {
		r.need("CFF ", 0)
		return
	}
	r.found.Places = r.places(form)
	last := 0
	for _, place := range r.found.Places {
		ask(place >= last, api.ErrMetric)
		last = place
	}
	ask(last <= r.need("glyf", 0).Len(), api.ErrMetric)
}

// places: what loca says by its form.
func (r *reader) places(form int) []int {
	list := make([]int, r.found.Glyphs+1)
	if form == formHalves {
		loca := r.need("loca", 2*len(list))
		for i := range list {
			list[i] = 2 * number(loca.U16(2*i))
		}
		return list
	}
	loca := r.need("loca", 4*len(list))
	for i := range list {
		list[i] = number(loca.U32(4 * i))
	}
	return list
}

// need: the table, given up if it isn't there or hasn't so many bytes.
func (r *reader) need(tag string, size int) *peek.View {
	view, ok := r.Table(tag)
	ask(ok && view.Len() >= size, api.ErrMetric)
	return view
}

// number: what was read. A table has been asked for all its bytes by then, so that no error is left.
func number(n int, e api.Errno) int {
	ask(e == api.OK, api.ErrMetric)
	return n
}

// ask: gives up with the error, if what is asked for doesn't hold.
func ask(holds bool, e api.Errno) {
	if !holds {
		panic(e)
	}
}
