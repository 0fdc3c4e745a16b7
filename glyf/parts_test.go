package glyf_test

import (
	"bytes"
	"slices"
	"testing"

	"serif/api"
)

// line: a glyph of two knots, with instructions, and its outline.
func line() ([]byte, [][]api.Knot) {
	return simple([]int{1}, row(1, 2, 3), row(1, 0), u16s(8, -13), u16s(4, 5)), outline(knots(on(8, 4), quad(-5, 9)))
}

// P7.3: a glyph of one part that is left as it is, of each number of contours below 0; its code isn't the part's.
func TestOnePart(t *testing.T) {
	a, o := line()
	for _, contours := range []int{-1, -2, -100, -32768} {
		gives(t, api.Glyph{Outline: o}, 1, a, join(head(contours), part(shifted, 0, row(0, 0))))
	}
	// Behind the last part there may be instructions: they aren't looked at, whether bit 256 tells of them or not.
	gives(t, api.Glyph{Outline: o}, 1, a, composed(part(shifted+256, 0, row(0, 0)), u16s(3), row(7, 7, 7)))
	gives(t, api.Glyph{Outline: o}, 1, a, composed(part(shifted+256, 0, row(0, 0))))
	// Nor do other bits say anything.
	gives(t, api.Glyph{Outline: o}, 1, a, composed(part(0xFFFF-words-single-more-double-four, 0, row(0, 0))))
	// A part without bytes, or without contours, has none.
	gives(t, api.Glyph{}, 1, nil, composed(part(shifted, 0, row(5, 5))))
	gives(t, api.Glyph{}, 1, simple(nil, row(1), nil, nil, nil), composed(part(shifted+single, 0, row(5, 5), u16s(0))))
}

// P7.3: the shift, of one byte and of two.
func TestShift(t *testing.T) {
	a, _ := line()
	moved := func(dx, dy int) api.Glyph {
		return api.Glyph{Outline: outline(knots(on(8+dx, 4+dy), quad(-5+dx, 9+dy)))}
	}
	for _, c := range []struct {
		told byte
		by   int
	}{{0, 0}, {1, 1}, {126, 126}, {127, 127}, {128, -128}, {129, -127}, {254, -2}, {255, -1}} {
		gives(t, moved(c.by, 3), 1, a, composed(part(shifted, 0, row(c.told, 3))))
		gives(t, moved(-3, c.by), 1, a, composed(part(shifted, 0, row(253, c.told))))
	}
	for _, n := range []int{0, 1, -1, 127, 128, -128, -129, 255, 256, 32767, -32768} {
		gives(t, moved(n, 3), 1, a, composed(part(shifted+words, 0, u16s(n, 3))))
		gives(t, moved(-3, n), 1, a, composed(part(shifted+words, 0, u16s(-3, n))))
	}
}

// P7.3: the matrix, of one number, two and four, with the shift behind the turn.
func TestMatrix(t *testing.T) {
	a := simple([]int{1}, nil, row(1, 0), u16s(8, -13), u16s(4, 5)) // (8, 4) on, (-5, 9) quad
	for _, c := range []struct {
		flags  int
		matrix []int
		want   []api.Knot
	}{
		{0, nil, knots(on(18, 24), quad(5, 29))},
		{single, []int{16384}, knots(on(18, 24), quad(5, 29))},
		{single, []int{8192}, knots(on(14, 22), quad(7, 25))}, // -2.5 is -3, 4.5 is 5
		{single, []int{-16384}, knots(on(2, 16), quad(15, 11))},
		{single, []int{-32768}, knots(on(-6, 12), quad(20, 2))},
		{single, []int{0}, knots(on(10, 20), quad(10, 20))},
		{double, []int{16384, 8192}, knots(on(18, 22), quad(5, 25))},
		{double, []int{-8192, 32767}, knots(on(6, 28), quad(13, 38))}, // 2.5 is 3; 4 and 9 times nearly 2
		{four, []int{16384, 0, 0, 16384}, knots(on(18, 24), quad(5, 29))},
		{four, []int{16384, 8192, -16384, 4096}, knots(on(14, 25), quad(-4, 20))}, // (8-4, 4+1), (-5-9, -2.5+2.25)
		{four, []int{0, 16384, 0, 0}, knots(on(10, 28), quad(10, 15))},            // X goes into Y
		{four, []int{0, 0, 16384, 0}, knots(on(14, 20), quad(19, 20))},            // Y goes into X
		{four, []int{0, 0, 0, 16384}, knots(on(10, 24), quad(10, 29))},
		{four, []int{16384, 0, 0, 0}, knots(on(18, 20), quad(5, 20))},
		// Several bits at once: 8 is ahead of 64, 64 of 128.
		{single + double, []int{8192}, knots(on(14, 22), quad(7, 25))},
		{single + four, []int{8192}, knots(on(14, 22), quad(7, 25))},
		{single + double + four, []int{8192}, knots(on(14, 22), quad(7, 25))},
		{double + four, []int{16384, 8192}, knots(on(18, 22), quad(5, 25))},
	} {
		for _, shift := range []int{0, words} {
			told := row(10, 20)
			if shift == words {
				told = u16s(10, 20)
			}
			b := composed(part(shifted+c.flags+shift, 0, told, u16s(c.matrix...)))
			gives(t, api.Glyph{Outline: outline(c.want)}, 1, a, b)
			fails(t, 71, 1, a, b[:len(b)-1])
			// What the next part is shows how many numbers were read.
			both := composed(part(shifted+c.flags+shift+more, 0, told, u16s(c.matrix...)), part(shifted, 0, row(0, 0)))
			gives(t, api.Glyph{Outline: outline(c.want, knots(on(8, 4), quad(-5, 9)))}, 1, a, both)
		}
	}
}

// P7.3: several parts, whose contours come one behind the other; parts of parts.
func TestSeveralParts(t *testing.T) {
	a, _ := dot(1, 1)
	b := simple([]int{0, 1}, nil, row(1, 0), u16s(5, 1), u16s(5, 1)) // (5, 5) on; (6, 6) quad
	c := composed(part(shifted+more, 0, row(10, 0)), part(shifted+more, 1, row(0, 10)), part(shifted, 0, row(20, 0)))
	gives(t, api.Glyph{Outline: outline(knots(on(11, 1)), knots(on(5, 15)), knots(quad(6, 16)), knots(on(21, 1)))}, 2, a, b, c)
	// The last one is told by bit 32 alone: what stands behind it is no part.
	d := composed(part(shifted, 0, row(10, 0)), part(shifted+more, 1, row(0, 10)))
	gives(t, api.Glyph{Outline: outline(knots(on(11, 1)))}, 2, a, b, d)
	fails(t, 71, 2, a, b, composed(part(shifted+more, 0, row(10, 0))))
	// Twice as far, and turned round about, in a part of a part.
	e := composed(part(shifted+more+single, 2, row(100, 0), u16s(-32768)), part(shifted, 1, row(0, 0)))
	want := outline(knots(on(78, -2)), knots(on(90, -30)), knots(quad(88, -32)), knots(on(58, -2)), knots(on(5, 5)), knots(quad(6, 6)))
	gives(t, api.Glyph{Outline: want}, 3, a, b, c, e)
	// A part may come ahead of its glyph in the table.
	gives(t, api.Glyph{Outline: outline(knots(on(3, 4)))}, 0, composed(part(shifted, 1, row(2, 3))), a)
}

// P7.3: parts that are matched by points, and which of their bytes are read ahead of that.
func TestMatchedByPoints(t *testing.T) {
	a, _ := line()
	for _, flags := range []int{0, words, single, four, more, 4, 16, 256, 0xFFFF - shifted} {
		b := composed(part(flags, 0, row(0, 0, 0, 0), u16s(1, 2, 3, 4)))
		for n := len(b); n >= 14; n-- {
			fails(t, 72, 1, a, b[:n])
		}
		for n := 13; n > 0; n-- {
			fails(t, 71, 1, a, b[:n])
		}
		// Ahead of the glyph that isn't there, and of one that is wrong.
		fails(t, 72, 1, a, composed(part(flags, 2, row(0, 0, 0, 0))))
		fails(t, 72, 1, head(1), composed(part(flags, 0, row(0, 0, 0, 0))))
		// Behind a part that is right.
		fails(t, 72, 1, a, composed(part(shifted+more, 0, row(0, 0)), part(flags, 0)))
		fails(t, 71, 1, a, composed(part(shifted+more, 0, row(0, 0)), part(flags, 0)[:3]))
	}
}

// P7.3: a part's glyph that isn't there, and one that is wrong.
func TestPartsGlyph(t *testing.T) {
	a, _ := line()
	for _, g := range []int{2, 3, 256, 32767, 32768, 65535} {
		fails(t, 75, 1, a, composed(part(shifted, g, row(0, 0))))
		fails(t, 75, 1, a, composed(part(shifted+more, 0, row(0, 0)), part(shifted+more, g, row(0, 0)), part(0, 0)))
		// It is read whole ahead of that.
		fails(t, 71, 1, a, composed(part(shifted, g, row(0))))
		fails(t, 71, 1, a, composed(part(shifted+single, g, row(0, 0, 1))))
	}
	for _, c := range []struct {
		b     []byte
		fault api.Errno
	}{{row(0), 71}, {head(1), 71}, {head(257), 73}, {composed(part(0, 0)), 72}, {composed(part(shifted, 9, row(0, 0))), 75}, {join(head(1), u16s(4096)), 73}} {
		fails(t, c.fault, 1, c.b, composed(part(shifted, 0, row(0, 0))))
		fails(t, c.fault, 1, c.b, composed(part(shifted+more, 0, row(0, 0))))
		fails(t, 71, 1, c.b, composed(part(shifted+words, 0, u16s(0))))
		fails(t, c.fault, 2, c.b, composed(part(shifted, 0, row(0, 0))), composed(part(shifted, 1, row(0, 0))))
	}
	// Places of a part's glyph that fall or lie beyond the table.
	b := composed(part(shifted, 1, row(0, 0)))
	for _, places := range [][]int{{0, len(b), 0}, {0, len(b), len(b) + 1}, {0, len(b), -1}} {
		if _, e := decode(t, b, places, 0); e != 71 {
			t.Error(places, e)
		}
	}
	if got, e := decode(t, b, []int{0, len(b), len(b)}, 0); e != 0 || len(got.Outline) != 0 {
		t.Error(got, e)
	}
}

// far: a glyph of n knots that go on by d in X and in Y.
func far(n, d int) []byte {
	return simple([]int{n - 1}, nil, make([]byte, n), bytes.Repeat(u16s(d), n), bytes.Repeat(u16s(d), n))
}

// turned: a glyph of one part, by a matrix of four numbers.
func turned(glyph, a, b, c, d int) []byte {
	return composed(part(shifted+four, glyph, row(0, 0), u16s(a, b, c, d)))
}

// moved: a glyph of one part, by a shift.
func moved(glyph, dx, dy int) []byte { return composed(part(shifted+words, glyph, u16s(dx, dy))) }

// ends: the last glyph of these ends with this knot.
func ends(t *testing.T, want api.Knot, glyphs ...[]byte) {
	t.Helper()
	table, places := font(glyphs...)
	got, e := decode(t, table, places, len(glyphs)-1)
	if e != 0 || len(got.Outline) == 0 || got.Outline[0][len(got.Outline[0])-1] != want {
		t.Errorf("%v, not %v", e, want)
	}
}

// P7.3: a turn that layer 6 refuses: the last knot lies at -2^27 and, taken off four times, at 2^29; four times that is beyond a FIX.
func TestTurnRefused(t *testing.T) {
	base, wide := far(4096, -32768), turned(0, -32768, -32768, -32768, -32768)
	ends(t, quad(-1<<27, -1<<27), base)
	ends(t, quad(1<<29, 1<<29), base, wide)
	for _, m := range [][4]int{{-32768, -32768, -32768, -32768}, {-32768, 0, -32768, 0}, {0, -32768, 0, -32768}} {
		fails(t, 74, 2, base, wide, turned(1, m[0], m[1], m[2], m[3]))
	}
	ends(t, quad(-1<<30, 1<<30-1<<15), base, wide, turned(1, -32768, 32767, 0, 0))
	ends(t, quad(65536*32767, -65536*32767), base, wide, turned(1, 32767, -32767, 32767, -32767))
	// One that is refused is refused within others, too, and wherever it is among parts.
	refused := turned(1, -32768, 0, -32768, 0)
	fails(t, 74, 3, base, wide, refused, composed(part(shifted, 2, row(0, 0))))
	fails(t, 74, 3, base, wide, refused, composed(part(shifted+more, 2, row(0, 0)), part(0, 0)))
}

// P7.3: a move that layer 6 refuses, and one that goes just as far as a FIX does.
func TestMoveRefused(t *testing.T) {
	base, wide := far(4096, -32768), turned(0, -32768, -32768, -32768, -32768)
	for _, sign := range []int{1, -1} {
		// To 2147418112, and by two moves to one below the greatest FIX.
		n := 32767 * sign
		near := [][]byte{base, wide, turned(1, n, n, n, n), moved(2, n, n), moved(3, n, n)}
		ends(t, quad((maxFix-1)*sign, (maxFix-1)*sign), near...)
		for _, c := range []struct {
			dx, dy int
			fault  api.Errno
		}{{1, 1, 0}, {0, 1, 0}, {1, -1, 0}, {-32767, 0, 0}, {2, 1, 74}, {1, 2, 74}, {2, 2, 74}, {0, 2, 74}, {32767, 0, 74}, {0, 32767, 74}, {-32767, 32767, 74}} {
			glyphs := append(slices.Clone(near), moved(4, c.dx*sign, c.dy*sign))
			if c.fault != 0 {
				fails(t, c.fault, 5, glyphs...)
				continue
			}
			ends(t, quad((maxFix-1+c.dx)*sign, (maxFix-1+c.dy)*sign), glyphs...)
		}
	}
}

// P7.3: the order within a part.
func TestOrderInPart(t *testing.T) {
	a, _ := line()
	base, wide := far(4096, -32768), turned(0, -32768, -32768, -32768, -32768)
	refused := part(shifted+four, 1, row(0, 0), u16s(-32768, 0, -32768, 0))
	// Refused, and 4098 knots in all.
	fails(t, 74, 3, base, wide, a, composed(part(shifted+more, 2, row(0, 0)), refused))
	// Cut short, and refused.
	fails(t, 71, 2, base, wide, composed(refused[:13]))
	// Too many, and no further part.
	fails(t, 73, 2, base, a, composed(part(shifted+more, 1, row(0, 0)), part(shifted+more, 0, row(0, 0))))
	// Too many knots in a part's glyph, and none of its knots could be moved.
	fails(t, 73, 1, join(head(1), u16s(4096)), turned(0, -32768, -32768, -32768, -32768))
}

// flat: a glyph of so many contours of so many knots each, all at (0, 0), and its outline.
func flat(contours, each int) ([]byte, [][]api.Knot) {
	var lasts []int
	for i := range contours {
		lasts = append(lasts, (i+1)*each-1)
	}
	return simple(lasts, nil, bytes.Repeat(row(1+16+32), contours*each), nil, nil), slices.Repeat(outline(slices.Repeat(knots(on(0, 0)), each)), contours)
}

// P7.3: contours and knots of several parts, just as many as may be and more.
func TestPartsLimits(t *testing.T) {
	for _, c := range []struct {
		contoursA, eachA, contoursB, eachB int
		fault                              api.Errno
	}{
		{128, 1, 128, 1, 0}, {255, 1, 1, 1, 0}, {1, 1, 255, 1, 0}, {256, 1, 0, 0, 0},
		{128, 1, 129, 1, 73}, {256, 1, 1, 1, 73}, {1, 1, 256, 1, 73}, {256, 1, 256, 1, 73},
		{1, 2048, 1, 2048, 0}, {1, 4095, 1, 1, 0}, {1, 1, 1, 4095, 0}, {128, 16, 128, 16, 0}, {0, 0, 1, 4096, 0},
		{1, 2048, 1, 2049, 73}, {1, 4096, 1, 1, 73}, {1, 1, 1, 4096, 73}, {100, 40, 1, 97, 73}, {1, 4096, 1, 4096, 73},
	} {
		a, ofA := flat(c.contoursA, c.eachA)
		b, ofB := flat(c.contoursB, c.eachB)
		last, notLast := part(shifted, 1, row(0, 0)), part(shifted+more, 1, row(0, 0))
		first := part(shifted+more, 0, row(0, 0))
		if c.fault == 0 {
			gives(t, api.Glyph{Outline: slices.Concat(ofA, ofB)}, 2, a, b, composed(first, last))
			gives(t, api.Glyph{Outline: slices.Concat(ofA, ofB)}, 3, a, b, composed(first, last), composed(part(shifted, 2, row(0, 0))))
			fails(t, 71, 2, a, b, composed(first, notLast))
			continue
		}
		fails(t, c.fault, 2, a, b, composed(first, last))
		fails(t, c.fault, 2, a, b, composed(first, notLast))
		fails(t, c.fault, 3, a, b, composed(last), composed(first, part(shifted, 2, row(0, 0))))
	}
}

// chain: glyphs, each of which holds the one ahead of it; n of them, the first as it is given.
func chain(first []byte, n int) [][]byte {
	glyphs := [][]byte{first}
	for i := 1; i < n; i++ {
		glyphs = append(glyphs, composed(part(shifted, i-1, row(1, 0))))
	}
	return glyphs
}

// P7.4: glyphs within one another, down to the deepest that is taken, and deeper.
func TestNest(t *testing.T) {
	a, _ := dot(0, 5)
	glyphs := chain(a, 12)
	for g := range 8 {
		gives(t, api.Glyph{Outline: outline(knots(on(g, 5)))}, g, glyphs...)
	}
	for g := 8; g < 12; g++ {
		fails(t, 73, g, glyphs...)
	}
	// Ahead of all else of the glyph that is too deep, even where it has no bytes, or wrong ones.
	for _, b := range [][]byte{nil, row(0), head(257), head(-1), composed(part(0, 0)), composed(part(shifted, 99, row(0, 0)))} {
		fails(t, 73, 8, chain(b, 9)...)
	}
	gives(t, api.Glyph{}, 7, chain(nil, 8)...)
	fails(t, 71, 7, chain(row(0), 8)...)
	table, places := font(chain(a, 9)...)
	for _, wrong := range []int{-1, 0, len(table) + 1} {
		places[0] = wrong
		if _, e := decode(t, table, places, 8); e != 73 {
			t.Error(wrong, e)
		}
	}
	// But behind the glyph that isn't there.
	for _, g := range []int{9, 65535} {
		fails(t, 75, 7, chain(composed(part(shifted, g, row(0, 0))), 8)...)
		fails(t, 73, 8, chain(composed(part(shifted, g, row(0, 0))), 9)...)
	}
	// And behind what is read of the part.
	fails(t, 71, 7, chain(composed(part(shifted, 0, row(0))), 8)...)
	fails(t, 72, 7, chain(composed(part(0, 0)), 8)...)
}

// P7.4: glyphs that hold themselves.
func TestRings(t *testing.T) {
	a, _ := dot(0, 5)
	self := composed(part(shifted, 0, row(1, 1)))
	fails(t, 73, 0, self)
	fails(t, 73, 0, composed(part(shifted+more, 0, row(1, 1)), part(shifted, 0, row(1, 1))))
	fails(t, 73, 0, composed(part(shifted+more, 1, row(1, 1)), part(shifted, 0, row(1, 1))), a)
	fails(t, 73, 1, composed(part(shifted, 1, row(1, 1))), composed(part(shifted, 0, row(1, 1))))
	fails(t, 73, 0, composed(part(shifted, 1, row(1, 1))), composed(part(shifted, 2, row(1, 1))), composed(part(shifted, 0, row(1, 1))))
	fails(t, 71, 0, self[:15])
}

// many: a glyph of n parts of one glyph.
func many(n, glyph int) []byte {
	return composed(bytes.Repeat(part(shifted+more, glyph, row(0, 0)), n-1), part(shifted, glyph, row(0, 0)))
}

// open: a glyph of n parts of one glyph, the last of which isn't told so; then these bytes.
func open(n, glyph int, behind ...[]byte) []byte {
	return composed(bytes.Repeat(part(shifted+more, glyph, row(0, 0)), n), join(behind...))
}

// P7.4: as many parts as are taken over the whole call, and one more.
func TestParts(t *testing.T) {
	a, _ := dot(3, 4)
	_, all := flat(256, 1)
	for i := range all {
		all[i] = knots(on(3, 4))
	}
	gives(t, api.Glyph{}, 1, nil, many(256, 0))
	gives(t, api.Glyph{Outline: all}, 1, a, many(256, 0))
	fails(t, 73, 1, nil, many(257, 0))
	fails(t, 73, 1, nil, many(1000, 0))
	// The one above is refused ahead of what it is, and of whether it is there.
	for _, behind := range [][]byte{nil, row(0), part(0, 0), part(shifted, 99, row(0, 0)), part(shifted, 0), part(shifted, 1, row(0, 0))} {
		fails(t, 73, 1, nil, open(256, 0, behind))
	}
	fails(t, 71, 1, nil, open(255, 0))
	fails(t, 72, 1, nil, open(255, 0, part(0, 0)))
	fails(t, 75, 1, nil, open(255, 0, part(shifted, 99, row(0, 0))))
	// 16 parts, with 15 each.
	gives(t, api.Glyph{}, 2, nil, many(15, 0), many(16, 1))
	fails(t, 73, 2, nil, many(15, 0), open(16, 1, part(shifted, 0, row(0, 0))))
	fails(t, 73, 2, nil, many(16, 0), many(16, 1))
	// The one above is in a part.
	gives(t, api.Glyph{}, 2, nil, many(1, 0), open(254, 0, part(shifted, 1, row(0, 0))))
	fails(t, 73, 2, nil, many(1, 0), open(255, 0, part(shifted, 1, row(0, 0))))
	fails(t, 73, 2, nil, many(2, 0), open(254, 0, part(shifted, 1, row(0, 0))))
	gives(t, api.Glyph{}, 2, nil, many(255, 0), many(1, 1))
	fails(t, 73, 2, nil, many(256, 0), many(1, 1))
	fails(t, 73, 2, nil, many(255, 0), many(2, 1))
	// The contours are too many ahead of the parts.
	two, _ := flat(2, 1)
	fails(t, 73, 1, two, many(129, 0))
}
