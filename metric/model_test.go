package metric_test

import (
	"bytes"
	"encoding/binary"
	"maps"
	"reflect"
	"slices"
	"testing"

	"serif/api"
	"serif/metric"
	"serif/sfnt"
)

// The signatures of the chapter.
var (
	_ func(*sfnt.Font) (api.Metrics, api.Errno)    = metric.Read
	_ func(api.Metrics, int) (int, api.Errno)      = metric.Advance
	_ func(api.Metrics, int) (int, int, api.Errno) = metric.Place
	_ func(api.Metrics, int, int) (int, api.Errno) = metric.Scale
)

// source is a font as a test writes it: its kind, and its tables by their tags, right or wrong.
type source struct {
	kind   int
	tables map[string][]byte
}

// u16s: numbers of two bytes, one behind the other; a number below 0 as its two bytes with a sign.
func u16s(list ...int) []byte {
	var out []byte
	for _, n := range list {
		out = binary.BigEndian.AppendUint16(out, uint16(n))
	}
	return out
}

// u32s: numbers of four bytes, one behind the other.
func u32s(list ...int) []byte {
	var out []byte
	for _, n := range list {
		out = binary.BigEndian.AppendUint32(out, uint32(n))
	}
	return out
}

// filler: bytes that nobody is to look at; none of them is 0.
func filler(n int) []byte { return bytes.Repeat([]byte{0xA7}, n) }

// head: a table head of these units and this form of loca.
func head(units, form int) []byte {
	out := filler(54)
	copy(out[12:], []byte{95, 15, 60, 245})
	copy(out[18:], u16s(units))
	copy(out[50:], u16s(form, 0))
	return out
}

// maxp: a table maxp of so many glyphs, its version in whole numbers.
func maxp(version, glyphs int) []byte { return append(u32s(version), u16s(glyphs)...) }

// hhea: a table hhea of these measures and so many wide rows.
func hhea(ascent, descent, gap, wide int) []byte {
	out := filler(36)
	copy(out[4:], u16s(ascent, descent, gap))
	copy(out[34:], u16s(wide))
	return out
}

// hmtx: a table hmtx of so many wide rows and glyphs: glyph g has the advance 500 + g, if its row is wide, and the bearing 3 - g.
func hmtx(wide, glyphs int) []byte {
	var out []byte
	for g := range glyphs {
		if g < wide {
			out = append(out, u16s(500+g)...)
		}
		out = append(out, u16s(3-g)...)
	}
	return out
}

// places: as many places as a font of so many glyphs has, four bytes from the one to the next.
func places(glyphs int) []int {
	var out []int
	for i := range glyphs + 1 {
		out = append(out, 4*i)
	}
	return out
}

// loca: these places in a form.
func loca(form int, list ...int) []byte {
	if form == 1 {
		return u32s(list...)
	}
	var out []byte
	for _, n := range list {
		out = append(out, u16s(n/2)...)
	}
	return out
}

// right: a font of a kind that nothing is wrong with.
func right(kind, glyphs, wide, form int) source {
	s := source{kind, map[string][]byte{
		"head": head(1000, form),
		"maxp": maxp(65536, glyphs),
		"hhea": hhea(800, -200, 90, wide),
		"hmtx": hmtx(wide, glyphs),
	}}
	if kind == api.KindCff {
		s.tables["maxp"] = maxp(80<<8, glyphs)
		s.tables["CFF "] = filler(5)
		return s
	}
	s.tables["loca"] = loca(form, places(glyphs)...)
	s.tables["glyf"] = filler(4 * glyphs)
	return s
}

// with: the font with another table, or without it, if there are no bytes at all (nil).
func (s source) with(tag string, table []byte) source {
	t := maps.Clone(s.tables)
	t[tag] = table
	if table == nil {
		delete(t, tag)
	}
	return source{s.kind, t}
}

// poke: the font with these bytes written over those of a table.
func (s source) poke(tag string, at int, b ...byte) source {
	table := slices.Clone(s.tables[tag])
	copy(table[at:], b)
	return s.with(tag, table)
}

// file: the font's bytes. Beside its tables it has one that no test speaks of.
func (s source) file(t testing.TB) []byte {
	t.Helper()
	pieces := []api.Piece{{Tag: "zzzz", Bytes: filler(9)}}
	for tag, b := range s.tables {
		pieces = append(pieces, api.Piece{Tag: tag, Bytes: b})
	}
	slices.SortFunc(pieces, func(a, b api.Piece) int { return bytes.Compare([]byte(a.Tag), []byte(b.Tag)) })
	b, e := sfnt.Build(s.kind, pieces)
	if e != 0 {
		t.Fatal(e)
	}
	return b
}

// open: the font, opened.
func (s source) open(t testing.TB) *sfnt.Font {
	t.Helper()
	f, e := sfnt.Open(s.file(t), 0)
	if e != 0 {
		t.Fatal(e)
	}
	return f
}

// model: the steps of P4.1, word by word, on a map of tables.
func model(s source) (api.Metrics, api.Errno) {
	none := api.Metrics{}
	h, there := s.tables["head"]
	switch {
	case !there || len(h) < 54, h[12] != 95 || h[13] != 15 || h[14] != 60 || h[15] != 245:
		return none, 41
	case word(h, 18) < 16 || word(h, 18) > 16384, word(h, 50) > 1:
		return none, 41
	case word(h, 52) != 0:
		return none, 42
	}
	x, there := s.tables["maxp"]
	if !there || len(x) < 6 {
		return none, 41
	}
	if v := string(x[:4]); v != "\x00\x00\x50\x00" && v != "\x00\x01\x00\x00" {
		return none, 42
	}
	glyphs := word(x, 4)
	if glyphs == 0 {
		return none, 41
	}
	if glyphs > 4096 {
		return none, 43
	}
	e, there := s.tables["hhea"]
	if !there || len(e) < 36 || word(e, 34) == 0 || word(e, 34) > glyphs {
		return none, 41
	}
	m := api.Metrics{Kind: s.kind, Units: word(h, 18), Glyphs: glyphs, Ascent: signed(e, 4), Descent: signed(e, 6), Gap: signed(e, 8)}
	rows, there := s.tables["hmtx"]
	if !there || !modelRows(rows, word(e, 34), &m) || !modelOutlines(s, word(h, 50), &m) {
		return none, 41
	}
	return m, 0
}

// modelRows: step 4, by eating the table from its front.
func modelRows(rows []byte, wide int, m *api.Metrics) bool {
	for g := range m.Glyphs {
		if g < wide {
			if len(rows) < 2 {
				return false
			}
			m.Advances, rows = append(m.Advances, word(rows, 0)), rows[2:]
		} else {
			m.Advances = append(m.Advances, m.Advances[g-1])
		}
		if len(rows) < 2 {
			return false
		}
		m.Bearings, rows = append(m.Bearings, signed(rows, 0)), rows[2:]
	}
	return true
}

// modelOutlines: step 5.
func modelOutlines(s source, form int, m *api.Metrics) bool {
	if s.kind == 2 {
		_, there := s.tables["CFF "]
		return there
	}
	list, there := s.tables["loca"]
	glyf, has := s.tables["glyf"]
	if !there || !has {
		return false
	}
	for range m.Glyphs + 1 {
		if len(list) < 2+2*form {
			return false
		}
		n := 2 * word(list, 0)
		if form == 1 {
			n = word(list, 0)<<16 + word(list, 2)
		}
		m.Places, list = append(m.Places, n), list[2+2*form:]
	}
	return slices.IsSorted(m.Places) && m.Places[m.Glyphs] <= len(glyf)
}

func word(b []byte, at int) int { return int(b[at])*256 + int(b[at+1]) }

func signed(b []byte, at int) int {
	if n := word(b, at); n < 32768 {
		return n
	}
	return word(b, at) - 65536
}

// same: are the metrics the same, a nil list and an empty one taken as one?
func same(a, b api.Metrics) bool {
	for _, l := range []*[]int{&a.Advances, &a.Bearings, &a.Places, &b.Advances, &b.Bearings, &b.Places} {
		if len(*l) == 0 {
			*l = nil
		}
	}
	return reflect.DeepEqual(a, b)
}

// reads: Read answers as the model does, and the model answers this error.
func reads(t *testing.T, name string, s source, want api.Errno) {
	t.Helper()
	wanted, told := model(s)
	if told != want {
		t.Fatalf("%s: the model answers %v, the test asks for %v", name, told, want)
	}
	if m, e := metric.Read(s.open(t)); e != want || !same(m, wanted) {
		t.Errorf("%s: Read answers %v, %v; not %v, %v", name, m, e, wanted, want)
	}
}
