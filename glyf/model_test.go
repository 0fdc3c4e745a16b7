package glyf_test

import (
	"bytes"
	"encoding/binary"
	"slices"
	"testing"

	"serif/api"
	"serif/glyf"
	"serif/peek"
)

// The signatures and the type of the chapter.
var (
	_ func(v *peek.View, places []int, g int) (api.Glyph, api.Errno) = glyf.Decode
	_ func(o [][]api.Knot, code []byte) ([]byte, api.Errno)          = glyf.Encode
	_ struct {
		Outline [][]api.Knot
		Code    []byte
	} = api.Glyph{}
)

// maxFix: the greatest FIX, as the document has it.
const maxFix = 2147483647

func on(x, y int) api.Knot   { return api.Knot{X: x, Y: y, Kind: 1} }
func quad(x, y int) api.Knot { return api.Knot{X: x, Y: y, Kind: 2} }

// outline: contours in a list.
func outline(contours ...[]api.Knot) [][]api.Knot { return contours }

// knots: a contour.
func knots(list ...api.Knot) []api.Knot { return list }

// u16s: numbers of two bytes, one behind the other.
func u16s(list ...int) []byte {
	var out []byte
	for _, n := range list {
		out = binary.BigEndian.AppendUint16(out, uint16(n))
	}
	return out
}

// row: bytes.
func row(list ...byte) []byte { return list }

// join: the parts, one behind the other.
func join(parts ...[]byte) []byte { return bytes.Join(parts, nil) }

// head: the number of contours, and a box that nobody is to look at.
func head(contours int) []byte { return u16s(contours, 0xA7A7, 1, 0x7FFF, 0x8000) }

// simple: a simple glyph of these last knots, instructions, flags and coordinates.
func simple(last []int, code, flags, xs, ys []byte) []byte {
	return join(head(len(last)), u16s(last...), u16s(len(code)), code, flags, xs, ys)
}

// composed: a glyph of these parts.
func composed(parts ...[]byte) []byte { return join(head(-1), join(parts...)) }

// part: one with these flags, of this glyph, with what stands behind.
func part(flags, glyph int, behind ...[]byte) []byte {
	return join(u16s(flags, glyph), join(behind...))
}

// The bits of a part's flags, as the chapter has them.
const (
	words, shifted, single, more, double, four = 1, 2, 8, 32, 64, 128
)

// font: a table of these glyphs with their places, and other bytes ahead of them and behind.
func font(glyphs ...[]byte) ([]byte, []int) {
	table := row(0xA7, 0xA7, 0xA7)
	places := []int{len(table)}
	for _, g := range glyphs {
		table = join(table, g)
		places = append(places, len(table))
	}
	return join(table, bytes.Repeat(row(0xA7), 9)), places
}

// sameGlyph: lists that are nil are empty ones.
func sameGlyph(a, b api.Glyph) bool {
	return slices.EqualFunc(a.Outline, b.Outline, slices.Equal[[]api.Knot]) && bytes.Equal(a.Code, b.Code)
}

// decode: what Decode answers, which is what the model answers, and leaves what it was given.
func decode(t *testing.T, table []byte, places []int, g int) (api.Glyph, api.Errno) {
	t.Helper()
	bytesWere, placesWere := slices.Clone(table), slices.Clone(places)
	spare := append(slices.Clip(slices.Clone(places)), 77, 78, 79)
	v := peek.New(table)
	got, e := glyf.Decode(v, spare[:len(places)], g)
	want, fault := decodeModel(table, places, g)
	if e != fault || !sameGlyph(got, want) {
		t.Fatalf("%v, %v, %d: Decode answers %v, %v; not %v, %v", short(table), short(places), g, got, e, want, fault)
	}
	if e != 0 && (got.Outline != nil || got.Code != nil) {
		t.Fatalf("%v beside an error", got)
	}
	if !slices.Equal(spare, append(placesWere, 77, 78, 79)) || !bytes.Equal(v.Bytes(), bytesWere) {
		t.Fatalf("%v, %v, %d: what was handed in is changed", short(table), short(places), g)
	}
	return got, e
}

// short: a list that can be told.
func short[T any](list []T) []T { return list[:min(len(list), 300)] }

// gives: the glyph g of these glyphs is this.
func gives(t *testing.T, want api.Glyph, g int, glyphs ...[]byte) {
	t.Helper()
	table, places := font(glyphs...)
	if got, e := decode(t, table, places, g); e != 0 || !sameGlyph(got, want) {
		t.Errorf("%v: %v, %v; not %v", short(table), got, e, want)
	}
}

// fails: the glyph g of these glyphs is refused.
func fails(t *testing.T, fault api.Errno, g int, glyphs ...[]byte) {
	t.Helper()
	table, places := font(glyphs...)
	if _, e := decode(t, table, places, g); e != fault {
		t.Errorf("%v: %v, not %v", short(table), e, fault)
	}
}

// model is a second reading of the chapter: a call of Decode, which gives up by a panic.
type model struct {
	table  []byte
	places []int
	count  int // parts
}

// cursor is what is left of a glyph's bytes.
type cursor struct{ rest []byte }

func (c *cursor) take(n int) []byte {
	if len(c.rest) < n {
		panic(api.Errno(71))
	}
	got := c.rest[:n]
	c.rest = c.rest[n:]
	return got
}

func (c *cursor) u8() int  { return int(c.take(1)[0]) }
func (c *cursor) u16() int { return int(binary.BigEndian.Uint16(c.take(2))) }

func (c *cursor) i16() int {
	n := c.u16()
	if n >= 32768 {
		n -= 65536
	}
	return n
}

func (c *cursor) i8() int {
	n := c.u8()
	if n >= 128 {
		n -= 256
	}
	return n
}

// decodeModel: what Decode is to answer.
func decodeModel(table []byte, places []int, g int) (out api.Glyph, e api.Errno) {
	defer func() {
		if x := recover(); x != nil {
			out, e = api.Glyph{}, x.(api.Errno)
		}
	}()
	m := model{table: table, places: places}
	return m.glyph(g, 1), 0
}

func (m *model) glyph(g, depth int) api.Glyph {
	if g < 0 || len(m.places) < 2 || g > len(m.places)-2 {
		panic(api.Errno(75))
	}
	if depth > 8 {
		panic(api.Errno(73))
	}
	a, b := m.places[g], m.places[g+1]
	if b < a || a < 0 || b > len(m.table) {
		panic(api.Errno(71))
	}
	if a == b {
		return api.Glyph{}
	}
	c := &cursor{m.table[a:b]}
	contours := c.i16()
	c.take(8)
	if contours < 0 {
		return api.Glyph{Outline: m.composed(c, depth)}
	}
	return simpleModel(c, contours)
}

func simpleModel(c *cursor, contours int) api.Glyph {
	if contours > 256 {
		panic(api.Errno(73))
	}
	ends := []int{-1}
	for range contours {
		last := c.u16()
		if last <= ends[len(ends)-1] {
			panic(api.Errno(71))
		}
		ends = append(ends, last)
	}
	number := ends[contours] + 1
	if number > 4096 {
		panic(api.Errno(73))
	}
	code := slices.Clone(c.take(c.u16()))
	var all []api.Knot
	var flags []int
	for left := number; left > 0; {
		flag, times := c.u8(), 1
		if flag/8%2 == 1 {
			times += c.u8()
		}
		if times > left {
			panic(api.Errno(71))
		}
		left -= times
		flags = append(flags, slices.Repeat([]int{flag}, times)...)
	}
	x, y := 0, 0
	for _, flag := range flags {
		x += way(c, flag/2%2, flag/16%2)
		all = append(all, api.Knot{X: x, Kind: 2 - flag%2})
	}
	for i, flag := range flags {
		y += way(c, flag/4%2, flag/32%2)
		all[i].Y = y
	}
	var o [][]api.Knot
	for i := range contours {
		o = append(o, all[ends[i]+1:ends[i+1]+1])
	}
	return api.Glyph{Outline: o, Code: code}
}

// way: a difference by its two bits.
func way(c *cursor, byByte, other int) int {
	if byByte == 1 {
		return c.u8() * (2*other - 1)
	}
	if other == 1 {
		return 0
	}
	return c.i16()
}

func (m *model) composed(c *cursor, depth int) (o [][]api.Knot) {
	for again := true; again; {
		m.count++
		if m.count > 256 {
			panic(api.Errno(73))
		}
		flags, glyph := c.u16(), c.u16()
		if flags/2%2 == 0 {
			panic(api.Errno(72))
		}
		shift := c.i8
		if flags%2 == 1 {
			shift = c.i16
		}
		dx := shift()
		dy := shift()
		xx, xy, yx, yy := 16384, 0, 0, 16384
		if flags/8%2 == 1 {
			xx = c.i16()
			yy = xx
		} else if flags/64%2 == 1 {
			xx = c.i16()
			yy = c.i16()
		} else if flags/128%2 == 1 {
			xx = c.i16()
			yx = c.i16()
			xy = c.i16()
			yy = c.i16()
		}
		inner := m.glyph(glyph, depth+1).Outline
		for _, contour := range inner {
			var moved []api.Knot
			for _, k := range contour {
				moved = append(moved, api.Knot{X: dotModel(xx, xy, k, dx), Y: dotModel(yx, yy, k, dy), Kind: k.Kind})
			}
			o = append(o, moved)
		}
		if total := len(slices.Concat(o...)); len(o) > 256 || total > 4096 {
			panic(api.Errno(73))
		}
		again = flags/32%2 == 1
	}
	return o
}

// dotModel: a coordinate turned and moved.
func dotModel(a, b int, k api.Knot, shift int) int {
	// Each product has at most 46 bits.
	sum, sign := a*k.X+b*k.Y, 1
	if sum < 0 {
		sum, sign = -sum, -1
	}
	n := (sum + 8192) / 16384 * sign
	if n < -maxFix || n > maxFix || n+shift < -maxFix || n+shift > maxFix {
		panic(api.Errno(74))
	}
	return n + shift
}
