package cmap_test

import (
	"bytes"
	"encoding/binary"

	"serif/api"
	"serif/cmap"
	"serif/peek"
)

// The signatures of the chapter.
var (
	_ func(*peek.View, int) (*cmap.Map, api.Errno)             = cmap.Read
	_ func(m *cmap.Map, code int) int                          = (*cmap.Map).Glyph
	_ func(m *cmap.Map, code, selector int) (glyph, whose int) = (*cmap.Map).Variant
	_ func(m *cmap.Map) int                                    = (*cmap.Map).Form
)

// u16s: numbers of two bytes, one behind the other.
func u16s(list ...int) []byte {
	var out []byte
	for _, n := range list {
		out = binary.BigEndian.AppendUint16(out, uint16(n))
	}
	return out
}

// u24: a number of three bytes.
func u24(n int) []byte { return []byte{byte(n >> 16), byte(n >> 8), byte(n)} }

// u32s: numbers of four bytes, one behind the other.
func u32s(list ...int) []byte {
	var out []byte
	for _, n := range list {
		out = binary.BigEndian.AppendUint32(out, uint32(n))
	}
	return out
}

// join: the parts, one behind the other.
func join(parts ...[]byte) []byte { return bytes.Join(parts, nil) }

// filler: bytes that nobody is to look at; none of them is 0.
func filler(n int) []byte { return bytes.Repeat([]byte{0xA7}, n) }

// part is a row of a table as a test writes it, and its subtable.
type part struct {
	platform, encoding int
	sub                []byte
}

// table: a table of these parts, their subtables one behind the other in their order.
func table(parts ...part) []byte {
	at := 4 + 8*len(parts)
	out := u16s(0, len(parts))
	var subs []byte
	for _, p := range parts {
		out = join(out, u16s(p.platform, p.encoding), u32s(at+len(subs)))
		subs = join(subs, p.sub)
	}
	return join(out, subs)
}

// one: a table of a single subtable, of the kind that ranks first.
func one(sub []byte) []byte { return table(part{3, 10, sub}) }

// form0: 256 bytes, code c having the glyph (7 c + 3) modulo 256.
func form0() []byte {
	out := join(u16s(0), filler(4))
	for c := range 256 {
		out = append(out, byte(7*c+3))
	}
	return out
}

// segment is one of form 4: its offset is what the table is to tell, as it stands there.
type segment struct{ start, end, delta, offset int }

// form4: these segments, and numbers behind their offsets.
func form4(list []segment, numbers ...int) []byte {
	var ends, starts, deltas, offsets []byte
	for _, s := range list {
		ends, starts = join(ends, u16s(s.end)), join(starts, u16s(s.start))
		deltas, offsets = join(deltas, u16s(s.delta)), join(offsets, u16s(s.offset))
	}
	return join(u16s(4), filler(4), u16s(2*len(list)), filler(6), ends, filler(2), starts, deltas, offsets, u16s(numbers...))
}

// form6: a run of codes from the first on.
func form6(first int, glyphs ...int) []byte {
	return join(u16s(6), filler(4), u16s(first, len(glyphs)), u16s(glyphs...))
}

// group is one of forms 12 and 13.
type group struct{ start, end, glyph int }

// groups: these groups in form 12 or 13.
func groups(form int, list ...group) []byte {
	out := join(u16s(form), filler(10), u32s(len(list)))
	for _, g := range list {
		out = join(out, u32s(g.start, g.end, g.glyph))
	}
	return out
}

// choice is a selector as a test writes it: pairs of a start and how many more, and of a code and a glyph. A nil list isn't there, an empty one is there and has the number 0.
type choice struct {
	code  int
	plain [][2]int
	own   [][2]int
}

// form14: these selectors, each one's lists behind all rows.
func form14(list ...choice) []byte {
	at := 10 + 11*len(list)
	out := join(u16s(14), filler(4), u32s(len(list)))
	var lists []byte
	for _, c := range list {
		plainAt, ownAt := 0, 0
		if c.plain != nil {
			plainAt = at + len(lists)
			lists = join(lists, u32s(len(c.plain)))
			for _, r := range c.plain {
				lists = join(lists, u24(r[0]), []byte{byte(r[1])})
			}
		}
		if c.own != nil {
			ownAt = at + len(lists)
			lists = join(lists, u32s(len(c.own)))
			for _, r := range c.own {
				lists = join(lists, u24(r[0]), u16s(r[1]))
			}
		}
		out = join(out, u24(c.code), u32s(plainAt, ownAt))
	}
	return join(out, lists)
}

// short is the panic by which the model gives up a number that isn't within the table.
type short struct{}

// model is a second reading of the chapter: it keeps the bytes, and looks at them from the front whenever it is asked.
type model struct {
	b          []byte
	glyphs     int
	sub, picks int // where the subtable and that of the selectors begin; picks -1: there is none
}

// has: do n bytes lie at the place?
func (m model) has(at, n int) bool { return at+n <= len(m.b) }

// get: the number of n bytes at the place, or the panic short.
func (m model) get(at, n int) int {
	if !m.has(at, n) {
		panic(short{})
	}
	sum := 0
	for _, x := range m.b[at : at+n] {
		sum = 256*sum + int(x)
	}
	return sum
}

// readModel: P5.1.
func readModel(b []byte, glyphs int) (m model, e api.Errno) {
	defer func() {
		if r := recover(); r != nil {
			_ = r.(short) // any other one is the model's own fault
			m, e = model{}, 51
		}
	}()
	m = model{b: b, glyphs: glyphs, picks: -1}
	if glyphs <= 0 || glyphs > 4096 {
		return model{}, 53
	}
	if m.get(0, 2) != 0 {
		return model{}, 52
	}
	rows := m.get(2, 2)
	if rows > 64 {
		return model{}, 53
	}
	best := 100
	for i := range rows {
		at := 4 + 8*i
		pair, place := [2]int{m.get(at, 2), m.get(at+2, 2)}, m.get(at+4, 4)
		for rank, r := range [][2]int{{3, 10}, {0, 6}, {0, 4}, {3, 1}, {0, 3}, {0, 2}, {0, 1}, {0, 0}, {1, 0}} {
			if pair == r && rank < best {
				best, m.sub = rank, place
			}
		}
		if pair == [2]int{0, 5} && m.picks < 0 {
			m.picks = place
		}
	}
	if best == 100 {
		return model{}, 52
	}
	if e := m.checkSub(); e != 0 {
		return model{}, e
	}
	if m.picks >= 0 {
		if e := m.checkSelectors(); e != 0 {
			return model{}, e
		}
	}
	return m, 0
}

// checkSub: the errors of P5.2.
func (m model) checkSub() api.Errno {
	switch m.get(m.sub, 2) {
	case 0:
		for c := range 256 {
			m.get(m.sub+6+c, 1)
		}
	case 4:
		return m.checkSegments()
	case 6:
		m.get(m.sub+6, 2)
		for i := range m.get(m.sub+8, 2) {
			m.get(m.sub+10+2*i, 2)
		}
	case 12, 13:
		n := m.get(m.sub+12, 4)
		if n > 4096 {
			return 53
		}
		last := -1
		for i := range n {
			at := m.sub + 16 + 12*i
			start, end := m.get(at, 4), m.get(at+4, 4)
			m.get(at+8, 4)
			if start > end || end > 1114111 || start <= last {
				return 51
			}
			last = end
		}
	default:
		return 52
	}
	return 0
}

// checkSegments: the errors of form 4.
func (m model) checkSegments() api.Errno {
	twice := m.get(m.sub+6, 2)
	if twice%2 == 1 || twice == 0 {
		return 51
	}
	if twice > 2*4096 {
		return 53
	}
	for i := range twice / 2 {
		end, start := m.get(m.sub+14+2*i, 2), m.get(m.sub+16+twice+2*i, 2)
		m.get(m.sub+16+2*twice+2*i, 2)
		m.get(m.sub+16+3*twice+2*i, 2)
		if start > end || i > 0 && end <= m.get(m.sub+14+2*i-2, 2) {
			return 51
		}
	}
	return 0
}

// checkSelectors: the errors of P5.4.
func (m model) checkSelectors() api.Errno {
	if m.get(m.picks, 2) != 14 {
		return 52
	}
	n := m.get(m.picks+6, 4)
	if n > 4096 {
		return 53
	}
	total, last := 0, -1
	for i := range n {
		at := m.picks + 10 + 11*i
		code := m.get(at, 3)
		places := [2]int{m.get(at+3, 4), m.get(at+7, 4)}
		if code <= last {
			return 51
		}
		last = code
		for own, place := range places {
			if place == 0 {
				continue
			}
			count := m.get(m.picks+place, 4)
			if total += count; total > 4096 {
				return 53
			}
			end := -1
			for k := range count {
				row := m.picks + place + 4 + (4+own)*k
				m.get(row, 4+own)
				if m.get(row, 3) <= end {
					return 51
				}
				end = m.get(row, 3)
				if own == 0 {
					end += m.get(row+3, 1)
				}
			}
		}
	}
	return 0
}

// form: the form of the subtable.
func (m model) form() int { return m.get(m.sub, 2) }

// fit: the glyph, 0 if the font hasn't it.
func (m model) fit(glyph int) int {
	if glyph < m.glyphs {
		return glyph
	}
	return 0
}

// glyph: P5.3.
func (m model) glyph(code int) int {
	if code < 0 || code > 1114111 {
		return 0
	}
	switch form := m.form(); form {
	case 0:
		if code <= 255 {
			return m.fit(m.get(m.sub+6+code, 1))
		}
	case 4:
		return m.fit(m.inSegments(code))
	case 6:
		for i := range m.get(m.sub+8, 2) {
			if m.get(m.sub+6, 2)+i == code {
				return m.fit(m.get(m.sub+10+2*i, 2))
			}
		}
	default:
		for i := range m.get(m.sub+12, 4) {
			at := m.sub + 16 + 12*i
			start, end, glyph := m.get(at, 4), m.get(at+4, 4), m.get(at+8, 4)
			if start <= code && code <= end && form == 12 {
				return m.fit(glyph + code - start)
			}
			if start <= code && code <= end {
				return m.fit(glyph)
			}
		}
	}
	return 0
}

// inSegments: the glyph of form 4.
func (m model) inSegments(code int) int {
	twice := m.get(m.sub+6, 2)
	for i := range twice / 2 {
		if m.get(m.sub+14+2*i, 2) < code {
			continue
		}
		start, delta := m.get(m.sub+16+twice+2*i, 2), m.get(m.sub+16+2*twice+2*i, 2)
		place := m.sub + 16 + 3*twice + 2*i
		offset := m.get(place, 2)
		switch at := place + offset + 2*(code-start); {
		case start > code:
			return 0
		case offset == 0:
			return (code + delta) & 65535
		case !m.has(at, 2) || m.get(at, 2) == 0:
			return 0
		default:
			return (m.get(at, 2) + delta) & 65535
		}
	}
	return 0
}

// variant: P5.5.
func (m model) variant(code, selector int) (int, int) {
	if m.picks < 0 || code < 0 {
		return 0, 0
	}
	for i := range m.get(m.picks+6, 4) {
		at := m.picks + 10 + 11*i
		if m.get(at, 3) != selector {
			continue
		}
		if place := m.get(at+7, 4); place != 0 {
			for k := range m.get(m.picks+place, 4) {
				row := m.picks + place + 4 + 5*k
				if m.get(row, 3) == code {
					return m.fit(m.get(row+3, 2)), 2
				}
			}
		}
		if place := m.get(at+3, 4); place != 0 {
			for k := range m.get(m.picks+place, 4) {
				row := m.picks + place + 4 + 4*k
				if start := m.get(row, 3); start <= code && code <= start+m.get(row+3, 1) {
					return m.glyph(code), 1
				}
			}
		}
	}
	return 0, 0
}
