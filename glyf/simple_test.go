package glyf_test

import (
	"bytes"
	"fmt"
	"math"
	"slices"
	"testing"

	"serif/api"
	"serif/glyf"
	"serif/peek"
)

// The sections Errors and Types.
func TestNumbers(t *testing.T) {
	for _, c := range []struct{ got, want int }{
		{int(api.ErrGlyf), 71}, {int(api.ErrGlyfKind), 72}, {int(api.ErrGlyfMany), 73}, {int(api.ErrGlyfFix), 74}, {int(api.ErrGlyfNone), 75},
		{api.MaxContours, 256}, {api.MaxPoints, 4096}, {api.MaxNest, 8}, {api.MaxParts, 256}, {api.KnotOn, 1}, {api.KnotQuad, 2},
	} {
		if c.got != c.want {
			t.Error(c.got, "is not", c.want)
		}
	}
}

// dot: a glyph of one knot, and what it is.
func dot(x, y int) ([]byte, api.Glyph) {
	return simple([]int{0}, nil, row(1), u16s(x), u16s(y)), api.Glyph{Outline: outline(knots(on(x, y)))}
}

// P7.1: the glyph's number.
func TestGlyphNumber(t *testing.T) {
	a, glyphA := dot(1, 2)
	b, glyphB := dot(3, 4)
	c, glyphC := dot(-5, 6)
	for i, want := range []api.Glyph{glyphA, glyphB, glyphC} {
		gives(t, want, i, a, b, c)
	}
	for _, g := range []int{-1, -2, 3, 4, 4096, math.MaxInt, math.MaxInt - 1, math.MinInt, math.MinInt + 1} {
		fails(t, 75, g, a, b, c)
	}
	table, _ := font(a)
	for _, places := range [][]int{nil, {}, {0}, {3}, {-9}, {1000}} {
		for _, g := range []int{0, 1, -1, -2, math.MaxInt, math.MinInt} {
			if _, e := decode(t, table, places, g); e != 75 {
				t.Error(places, g, e)
			}
		}
	}
}

// P7.1: the places of a glyph's bytes.
func TestPlaces(t *testing.T) {
	table, want := dot(7, -8)
	n := len(table)
	for _, c := range []struct {
		from, to int
		fault    api.Errno
	}{
		{0, n, 0}, {0, 0, 0}, {5, 5, 0}, {n, n, 0},
		{1, 0, 71}, {n, 0, 71}, {n, n - 1, 71}, {0, -1, 71}, {0, n + 1, 71}, {n, n + 1, 71}, {1, n + 1, 71}, {n + 1, n + 2, 71},
		{-1, n, 71}, {-1, 0, 71}, {-1, -1, 71}, {-5, -3, 71}, {n + 1, n + 1, 71}, {n + 1, n, 71}, {1000, 1000, 71},
		{0, math.MaxInt, 71}, {1, math.MinInt, 71}, {math.MaxInt, math.MinInt, 71}, {math.MinInt, math.MaxInt, 71}, {math.MinInt, 0, 71}, {math.MinInt, n, 71},
		{math.MinInt, math.MinInt, 71}, {math.MaxInt, math.MaxInt, 71}, {math.MinInt, math.MinInt + n, 71}, {math.MaxInt - n, math.MaxInt, 71}, {-math.MaxInt, n, 71},
	} {
		got, e := decode(t, table, []int{c.from, c.to}, 0)
		if e != c.fault || !sameGlyph(got, api.Glyph{}) && (c.from != 0 || c.to != n || !sameGlyph(got, want)) {
			t.Error(c, got, e)
		}
	}
	if got, _ := decode(t, table, []int{0, n}, 0); !sameGlyph(got, want) {
		t.Error(got)
	}
	// Other glyphs' places aren't asked.
	if got, e := decode(t, table, []int{-7, 0, n, math.MinInt, 3}, 1); e != 0 || !sameGlyph(got, want) {
		t.Error(got, e)
	}
	if _, e := decode(t, nil, []int{0, 0}, 0); e != 0 {
		t.Error(e)
	}
	if _, e := decode(t, nil, []int{0, 1}, 0); e != 71 {
		t.Error(e)
	}
}

// P7.1: bytes that are left aren't looked at.
func TestBytesLeft(t *testing.T) {
	for _, left := range [][]byte{{0}, {255}, {1, 2, 3, 4, 5, 6, 7}, bytes.Repeat(row(255), 300)} {
		b, want := dot(300, -300)
		gives(t, want, 0, join(b, left))
		gives(t, want, 1, b, join(composed(part(shifted, 0, row(0, 0))), left))
		gives(t, api.Glyph{}, 0, join(simple(nil, nil, nil, nil, nil), left))
	}
}

// three: a glyph of three contours with all that flags can tell, and what it is. The fifth flag is repeated once.
func three() ([]byte, api.Glyph) {
	b := simple([]int{2, 3, 7}, row(9, 8, 7, 0),
		row(1+2+16+4+32, 2, 4+1, 16+32+1, 16+8, 1, 1+2+4, 0),
		join(row(10, 3), u16s(-300), row(255), u16s(32767)),
		join(row(200), u16s(-1), row(201), u16s(5), u16s(6), row(0), u16s(-32768)))
	return b, api.Glyph{
		Outline: outline(
			knots(on(10, 200), quad(7, 199), on(-293, -2)),
			knots(on(-293, -2)),
			knots(quad(-293, 3), quad(-293, 9), on(-548, 9), quad(32219, -32759)),
		),
		Code: row(9, 8, 7, 0),
	}
}

// P7.2: a glyph with all of it.
func TestThreeContours(t *testing.T) {
	b, want := three()
	gives(t, want, 0, b)
	// The numbers of the box are of no weight.
	for _, n := range []byte{0, 1, 127, 128, 255} {
		other := slices.Clone(b)
		copy(other[2:10], bytes.Repeat(row(n), 8))
		gives(t, want, 0, other)
	}
}

// P7.1: a glyph that is cut short at each of its bytes, its number of contours and its box too.
func TestCutShort(t *testing.T) {
	good, _ := dot(0, 0)
	all, _ := three()
	for _, b := range [][]byte{
		all,
		simple(nil, nil, nil, nil, nil),
		simple(nil, row(1, 2, 3), nil, nil, nil),
		simple([]int{1}, row(1), row(16+32+8, 1), nil, nil),
		simple([]int{0}, nil, row(16+4), nil, row(7)),
		simple([]int{0}, nil, row(32+2), row(7), nil),
		composed(part(shifted, 0, row(1, 2))),
		composed(part(shifted+words, 0, u16s(1, 2))),
		composed(part(shifted+single, 0, row(1, 2), u16s(16384))),
		composed(part(shifted+double, 0, row(1, 2), u16s(16384, 5))),
		composed(part(shifted+words+four, 0, u16s(1, 2), u16s(16384, 5, 6, 7))),
		composed(part(shifted+more, 0, row(1, 2)), part(shifted+words+four, 0, u16s(1, 2), u16s(16384, 5, 6, 7))),
	} {
		for n := 1; n < len(b); n++ {
			fails(t, 71, 1, good, b[:n])
		}
		table, places := font(good, b)
		if _, e := decode(t, table, places, 1); e != 0 {
			t.Error(b, e)
		}
		gives(t, api.Glyph{}, 1, good, nil)
	}
}

// P7.2: no contours.
func TestNoContours(t *testing.T) {
	gives(t, api.Glyph{}, 0, simple(nil, nil, nil, nil, nil))
	gives(t, api.Glyph{Code: row(0)}, 0, simple(nil, row(0), nil, nil, nil))
	gives(t, api.Glyph{Code: row(4, 5, 6)}, 0, simple(nil, row(4, 5, 6), nil, nil, nil))
	long := bytes.Repeat(row(3, 1, 4), 21845)
	gives(t, api.Glyph{Code: long}, 0, simple(nil, long, nil, nil, nil))
	fails(t, 71, 0, simple(nil, long, nil, nil, nil)[:12+65534])
	fails(t, 71, 0, head(0))
}

// upTo: the numbers from 0 on, as many as n.
func upTo(n int) []int {
	list := make([]int, n)
	for i := range list {
		list[i] = i
	}
	return list
}

// P7.2: as many contours as may be, and more.
func TestManyContours(t *testing.T) {
	flat := func(n int) []byte { return bytes.Repeat(row(16+32), n) }
	for _, n := range []int{1, 255, 256} {
		var want [][]api.Knot
		for range n {
			want = append(want, knots(quad(0, 0)))
		}
		gives(t, api.Glyph{Outline: want}, 0, simple(upTo(n), nil, flat(n), nil, nil))
	}
	fails(t, 73, 0, simple(upTo(257), nil, flat(257), nil, nil))
	for _, n := range []int{257, 258, 4096, 32767} {
		fails(t, 73, 0, head(n))
		fails(t, 73, 0, join(head(n), u16s(5, 3)))
		fails(t, 71, 0, head(n)[:9])
	}
	fails(t, 71, 0, head(256))
}

// P7.2: each last knot is above the one ahead of it.
func TestLastKnots(t *testing.T) {
	flat := bytes.Repeat(row(1+16+32), 10)
	gives(t, api.Glyph{Outline: outline(knots(on(0, 0)), knots(on(0, 0), on(0, 0)), knots(on(0, 0)))}, 0, simple([]int{0, 2, 3}, nil, flat, nil, nil))
	for _, last := range [][]int{{0, 0}, {1, 1}, {1, 0}, {5, 4}, {5, 5}, {0, 3, 3}, {0, 3, 2}, {0, 3, 0}, {4, 0, 9}, {4096, 0}, {4096, 4096}, {65535, 65535}, {65535, 0}, {65535, 32768}, {32768, 32767}} {
		fails(t, 71, 0, simple(last, nil, flat, nil, nil))
		// The fault is ahead of the instructions.
		fails(t, 71, 0, join(head(len(last)), u16s(last...)))
	}
}

// P7.2: as many knots as may be, and more.
func TestManyKnots(t *testing.T) {
	flat := bytes.Repeat(row(1+8+16+32, 255), 16)
	want := slices.Repeat(knots(on(0, 0)), 4096)
	gives(t, api.Glyph{Outline: outline(want)}, 0, simple([]int{4095}, nil, flat, nil, nil))
	gives(t, api.Glyph{Outline: outline(want[:1], want[:4094], want[:1])}, 0, simple([]int{0, 4094, 4095}, nil, flat, nil, nil))
	fails(t, 73, 0, simple([]int{4096}, nil, join(flat, row(1+16+32)), nil, nil))
	for _, last := range [][]int{{4096}, {0, 4096}, {4095, 4096}, {65535}, {32767}, {32768}, {0, 1, 65535}, {4096, 4097}} {
		fails(t, 73, 0, join(head(len(last)), u16s(last...)))
		fails(t, 73, 0, simple(last, nil, flat, nil, nil))
		fails(t, 71, 0, join(head(len(last)), u16s(last...))[:9+2*len(last)])
		fails(t, 71, 0, join(head(len(last)+1), u16s(last...)))
	}
	fails(t, 71, 0, join(head(1), u16s(4095)))
}

// P7.2: flags that are repeated.
func TestRepeats(t *testing.T) {
	for _, c := range []struct {
		knots int
		flags []byte
		fault api.Errno
	}{
		{1, row(1+8+48, 0), 0}, {1, row(1+8+48, 1), 71}, {1, row(1+8+48, 255), 71}, {1, row(1 + 8 + 48), 71},
		{2, row(1+8+48, 1), 0}, {2, row(1+8+48, 2), 71}, {2, row(1+8+48, 0, 1+48), 0}, {2, row(1+8+48, 0), 71}, {2, row(1+48, 1+8+48, 0), 0}, {2, row(1+48, 1+8+48, 1), 71},
		{3, row(1+8+48, 2), 0}, {3, row(1+8+48, 3), 71}, {3, row(1+8+48, 1, 1+48), 0}, {3, row(1+8+48, 1), 71}, {3, row(1+8+48, 1, 1+8+48, 0), 0}, {3, row(1+8+48, 1, 1+8+48, 1), 71},
		{256, row(1+8+48, 255), 0}, {255, row(1+8+48, 255), 71}, {255, row(1+8+48, 254), 0}, {257, row(1+8+48, 255), 71}, {257, row(1+8+48, 255, 1+48), 0}, {257, row(1+8+48, 255, 1+8+48, 0), 0}, {257, row(1+8+48, 255, 1+8+48, 1), 71},
	} {
		if c.fault != 0 {
			fails(t, c.fault, 0, simple([]int{c.knots - 1}, nil, c.flags, nil, nil))
			continue
		}
		gives(t, api.Glyph{Outline: outline(slices.Repeat(knots(on(0, 0)), c.knots))}, 0, simple([]int{c.knots - 1}, nil, c.flags, nil, nil))
	}
	// A repeated flag's differences are all read, and it goes on in the next contour.
	gives(t, api.Glyph{Outline: outline(knots(on(1, 0)), knots(on(3, 0), on(6, 0)))}, 0, simple([]int{0, 2}, nil, row(1+2+16+32+8, 2), row(1, 2, 3), nil))
	// None has one: no flag is read.
	gives(t, api.Glyph{}, 0, join(simple(nil, nil, nil, nil, nil), row(8, 200)))
}

// P7.2: what each flag says of a knot's differences, in X and in Y; bits 64 and 128 say nothing.
func TestFlags(t *testing.T) {
	for flag := range 256 {
		if flag&8 != 0 {
			continue
		}
		for _, n := range []int{0, 1, 127, 128, 255} {
			for _, wide := range []int{0, 1, -1, 255, 256, -256, 32767, -32768} {
				xs, x := told(flag&2 != 0, flag&16 != 0, n, wide)
				ys, y := told(flag&4 != 0, flag&32 != 0, n, -1-wide)
				kind := 2
				if flag%2 == 1 {
					kind = 1
				}
				want := knots(api.Knot{X: x, Y: y, Kind: kind}, api.Knot{X: 2 * x, Y: 2 * y, Kind: kind})
				gives(t, api.Glyph{Outline: outline(want)}, 0, simple([]int{1}, nil, row(byte(flag), byte(flag)), join(xs, xs), join(ys, ys)))
			}
		}
	}
}

// told: the bytes of a difference by its two bits, and what it is: the byte n or the number wide.
func told(byByte, other bool, n, wide int) ([]byte, int) {
	switch {
	case byByte && other:
		return row(byte(n)), n
	case byByte:
		return row(byte(n)), -n
	case other:
		return nil, 0
	}
	return u16s(wide), wide
}

// P7.2: sums of differences, up to the greatest there are.
func TestFarKnots(t *testing.T) {
	for _, d := range []int{32767, -32768} {
		var want []api.Knot
		for i := range 4096 {
			want = append(want, quad((i+1)*d, (i+1)*(-1-d)))
		}
		b := simple([]int{4095}, nil, make([]byte, 4096), bytes.Repeat(u16s(d), 4096), bytes.Repeat(u16s(-1-d), 4096))
		gives(t, api.Glyph{Outline: outline(want)}, 0, b)
		fails(t, 71, 0, b[:len(b)-1])
	}
}

// An answer is new memory: what is written into one list, or behind it, is seen in no other and in no later answer.
func TestNewMemory(t *testing.T) {
	a := simple([]int{1, 2, 4}, row(5, 6), bytes.Repeat(row(1), 5), u16s(1, 2, 3, 4, 5), u16s(6, 7, 8, 9, 1))
	b := composed(part(shifted+more, 0, row(1, 2)), part(shifted, 0, row(0, 0)))
	table, places := font(a, b)
	v := peek.New(table)
	for g := range 2 {
		first, _ := glyf.Decode(v, places, g)
		was := fmt.Sprint(first)
		for i := range first.Outline {
			again, _ := glyf.Decode(v, places, g)
			for j := range again.Outline[i] {
				again.Outline[i][j] = api.Knot{X: 99, Y: 99, Kind: 99}
			}
			_ = append(again.Outline[i], api.Knot{X: 98}, api.Knot{X: 97})
			again.Outline[i] = first.Outline[i]
			_ = append(again.Code, 77, 78)
			_ = append(again.Outline, nil, nil)
			if fmt.Sprint(again) != was {
				t.Errorf("glyph %d: the contour %d shares memory: %v", g, i, again)
			}
		}
		for i := range first.Code {
			first.Code[i] = 66
		}
		if again, _ := glyf.Decode(v, places, g); fmt.Sprint(again) != was || !bytes.Equal(v.Bytes(), table) {
			t.Error(g, again)
		}
	}
}
