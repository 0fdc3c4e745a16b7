package type2_test

import (
	"bytes"
	"slices"
	"testing"

	"serif/api"
)

const maxFix = 2147483647

// drawn: behind a move to (100, 200) the operator draws these knots with the operands.
func drawn(t *testing.T, o op, operands []byte, want ...api.Knot) {
	t.Helper()
	gives(t, code(100, 200, op(21), operands, o, op(14)), outline(slices.Concat(knots(on(100, 200)), want)), 500)
}

// numbers: operands.
func numbers(list ...int) []byte {
	var out []byte
	for _, n := range list {
		out = append(out, short(n)...)
	}
	return out
}

func TestMoves(t *testing.T) {
	gives(t, code(3, -4, op(21), op(14)), outline(knots(on(3, -4))), 500)
	gives(t, code(3, op(22), op(14)), outline(knots(on(3, 0))), 500)
	gives(t, code(-4, op(4), op(14)), outline(knots(on(0, -4))), 500)
	// A contour begins where the one ahead of it has ended, not where it began.
	gives(t, code(3, -4, op(21), 10, op(6), 1, 1, op(21), 5, op(7), 2, op(22), -1, op(4), 9, 9, op(5), op(14)),
		outline(knots(on(3, -4), on(13, -4)), knots(on(14, -3), on(14, 2)), knots(on(16, 2)), knots(on(16, 1), on(25, 10))), 500)
	gives(t, code(0, op(22), 1, 2, 3, 4, 5, 6, op(8), 7, op(4), op(14)), outline(knots(on(0, 0), cubic(1, 2), cubic(4, 6), on(9, 12)), knots(on(9, 19))), 500)
	// Stems and masks between are none of the outline's.
	gives(t, code(1, op(22), 5, 5, op(1), 1, op(6), op(19), row(0), 1, op(7), op(14)), outline(knots(on(1, 0), on(2, 0), on(2, 1))), 500)
}

func TestLines(t *testing.T) {
	drawn(t, 5, numbers(1, 2), on(101, 202))
	drawn(t, 5, numbers(1, 2, -3, 4, 5, -6), on(101, 202), on(98, 206), on(103, 200))
	counts(t, 5, func(n int) bool { return n >= 2 && n%2 == 0 })

	drawn(t, 6, numbers(1), on(101, 200))
	drawn(t, 6, numbers(1, 2), on(101, 200), on(101, 202))
	drawn(t, 6, numbers(1, 2, 3, 4, 5), on(101, 200), on(101, 202), on(104, 202), on(104, 206), on(109, 206))
	drawn(t, 7, numbers(1), on(100, 201))
	drawn(t, 7, numbers(1, 2), on(100, 201), on(102, 201))
	drawn(t, 7, numbers(1, 2, 3, 4, 5), on(100, 201), on(102, 201), on(102, 204), on(106, 204), on(106, 209))
	counts(t, 6, func(n int) bool { return n >= 1 })
	counts(t, 7, func(n int) bool { return n >= 1 })
}

func TestCurves(t *testing.T) {
	first := knots(cubic(101, 202), cubic(104, 206), on(109, 212))
	drawn(t, 8, rising(6), first...)
	second := knots(cubic(116, 220), cubic(125, 230), on(136, 242))
	drawn(t, 8, rising(12), slices.Concat(first, second)...)
	counts(t, 8, func(n int) bool { return n >= 6 && n%6 == 0 })

	drawn(t, 24, rising(8), slices.Concat(first, knots(on(116, 220)))...)
	drawn(t, 24, rising(14), slices.Concat(first, second, knots(on(149, 256)))...)
	counts(t, 24, func(n int) bool { return n >= 8 && n%6 == 2 })

	drawn(t, 25, rising(8), on(101, 202), cubic(104, 206), cubic(109, 212), on(116, 220))
	drawn(t, 25, rising(10), on(101, 202), on(104, 206), cubic(109, 212), cubic(116, 220), on(125, 230))
	drawn(t, 25, rising(12), on(101, 202), on(104, 206), on(109, 212), cubic(116, 220), cubic(125, 230), on(136, 242))
	counts(t, 25, func(n int) bool { return n >= 8 && n%2 == 0 })
}

// 26 and 27, with and without the odd operand, once and several times.
func TestWaves(t *testing.T) {
	drawn(t, 26, rising(4), cubic(100, 201), cubic(102, 204), on(102, 208))
	drawn(t, 26, rising(5), cubic(101, 202), cubic(104, 206), on(104, 211))
	drawn(t, 26, rising(8), cubic(100, 201), cubic(102, 204), on(102, 208), cubic(102, 213), cubic(108, 220), on(108, 228))
	drawn(t, 26, rising(9), cubic(101, 202), cubic(104, 206), on(104, 211), cubic(104, 217), cubic(111, 225), on(111, 234))
	drawn(t, 27, rising(4), cubic(101, 200), cubic(103, 203), on(107, 203))
	drawn(t, 27, rising(5), cubic(102, 201), cubic(105, 205), on(110, 205))
	drawn(t, 27, rising(8), cubic(101, 200), cubic(103, 203), on(107, 203), cubic(112, 203), cubic(118, 210), on(126, 210))
	drawn(t, 27, rising(9), cubic(102, 201), cubic(105, 205), on(110, 205), cubic(116, 205), cubic(123, 213), on(132, 213))
	for _, o := range []op{26, 27, 30, 31} {
		counts(t, o, func(n int) bool { return n >= 4 && (n%4 == 0 || n%4 == 1) })
	}
}

// 30 and 31, with and without the odd operand, beginning along either way, once and several times.
func TestTurns(t *testing.T) {
	drawn(t, 30, rising(4), cubic(100, 201), cubic(102, 204), on(106, 204))
	drawn(t, 30, rising(5), cubic(100, 201), cubic(102, 204), on(106, 209))
	drawn(t, 30, rising(8), cubic(100, 201), cubic(102, 204), on(106, 204), cubic(111, 204), cubic(117, 211), on(117, 219))
	drawn(t, 30, rising(9), cubic(100, 201), cubic(102, 204), on(106, 204), cubic(111, 204), cubic(117, 211), on(126, 219))
	drawn(t, 31, rising(4), cubic(101, 200), cubic(103, 203), on(103, 207))
	drawn(t, 31, rising(5), cubic(101, 200), cubic(103, 203), on(108, 207))
	drawn(t, 31, rising(8), cubic(101, 200), cubic(103, 203), on(103, 207), cubic(103, 212), cubic(109, 219), on(117, 219))
	drawn(t, 31, rising(9), cubic(101, 200), cubic(103, 203), on(103, 207), cubic(103, 212), cubic(109, 219), on(117, 228))
	drawn(t, 31, rising(12), cubic(101, 200), cubic(103, 203), on(103, 207), cubic(103, 212), cubic(109, 219), on(117, 219), cubic(126, 219), cubic(136, 230), on(136, 242))
	drawn(t, 31, rising(13), cubic(101, 200), cubic(103, 203), on(103, 207), cubic(103, 212), cubic(109, 219), on(117, 219), cubic(126, 219), cubic(136, 230), on(149, 242))
	// The way begins anew with each operator.
	gives(t, code(0, op(22), rising(4), op(31), rising(4), op(31), op(14)), outline(knots(on(0, 0), cubic(1, 0), cubic(3, 3), on(3, 7), cubic(4, 7), cubic(6, 10), on(6, 14))), 500)
}

// 1234 to 1237.
func TestFlexes(t *testing.T) {
	drawn(t, 1234, rising(7), cubic(101, 200), cubic(103, 203), on(107, 203), cubic(112, 203), cubic(118, 200), on(125, 200))
	drawn(t, 1235, rising(13), cubic(101, 202), cubic(104, 206), on(109, 212), cubic(116, 220), cubic(125, 230), on(136, 242))
	drawn(t, 1235, join(rising(12), row(28, 128, 0)), cubic(101, 202), cubic(104, 206), on(109, 212), cubic(116, 220), cubic(125, 230), on(136, 242))
	drawn(t, 1236, rising(9), cubic(101, 202), cubic(104, 206), on(109, 206), cubic(115, 206), cubic(122, 214), on(131, 200))
	drawn(t, 1236, numbers(1, -2, 3, 4, 5, 6, 7, -8, 9), cubic(101, 198), cubic(104, 202), on(109, 202), cubic(115, 202), cubic(122, 194), on(131, 200))
	for o, n := range map[op]int{1234: 7, 1235: 13, 1236: 9, 1237: 11} {
		counts(t, o, func(k int) bool { return k == n })
	}
}

// The last pair of 1237, where the sum of the dx is greater in size than that of the dy, equal to it, and less.
func TestFlexBack(t *testing.T) {
	for _, c := range []struct {
		dx, dy     int // the sums
		endX, endY int // of the last pair, with d 70
	}{
		{20, 10, 70, -10}, {20, -10, 70, 10}, {-20, 10, 70, -10}, {-20, -10, 70, 10}, {20, 0, 70, 0}, {11, 10, 70, -10}, {-11, 10, 70, -10}, {11, -10, 70, 10},
		{10, 10, -10, 70}, {10, -10, -10, 70}, {-10, 10, 10, 70}, {-10, -10, 10, 70}, {0, 0, 0, 70},
		{10, 20, -10, 70}, {-10, 20, 10, 70}, {10, -20, -10, 70}, {-10, -20, 10, 70}, {0, 20, 0, 70}, {10, 11, -10, 70}, {10, -11, -10, 70}, {-10, 11, 10, 70},
	} {
		// The sums are made of five numbers that differ.
		drawn(t, 1237, numbers(c.dx, 1, 2, c.dy, -7, 5, 4, -9, 1, 3, 70),
			cubic(100+c.dx, 201), cubic(102+c.dx, 201+c.dy), on(95+c.dx, 206+c.dy), cubic(99+c.dx, 197+c.dy), cubic(100+c.dx, 200+c.dy), on(100+c.dx+c.endX, 200+c.dy+c.endY))
	}
	drawn(t, 1237, rising(11), cubic(101, 202), cubic(104, 206), on(109, 212), cubic(116, 220), cubic(125, 230), on(100, 241)) // 25 and 30
	// They are held against each other as they are, not rounded.
	almost := join(fix(65537), fix(65536), numbers(0, 0, 0, 0, 0, 0, 0, 0, 5))
	drawn(t, 1237, almost, cubic(101, 201), cubic(101, 201), on(101, 201), cubic(101, 201), cubic(101, 201), on(106, 200))
	almost = join(fix(65536), fix(65537), numbers(0, 0, 0, 0, 0, 0, 0, 0, 5))
	drawn(t, 1237, almost, cubic(101, 201), cubic(101, 201), on(101, 201), cubic(101, 201), cubic(101, 201), on(100, 206))
}

// Sums of coordinates at both ends of FIX, and one beyond.
func TestSums(t *testing.T) {
	for _, sign := range []int{1, -1} {
		far := fix(sign * maxFix)
		end := sign * 32768
		gives(t, code(far, op(22), op(14)), outline(knots(on(end, 0))), 500)
		gives(t, code(far, far, op(21), 0, 0, op(5), op(14)), outline(knots(on(end, end), on(end, end))), 500)
		gives(t, code(fix(sign*(maxFix-1)), op(4), fix(sign), op(7), op(14)), outline(knots(on(0, end), on(0, end))), 500)
		gives(t, code(far, op(22), fix(-sign*maxFix), op(6), fix(-sign*maxFix), op(6), op(14)), outline(knots(on(end, 0), on(0, 0), on(-end, 0))), 500)
		for _, last := range [][]byte{
			code(fix(sign), op(6)), code(fix(sign), 0, op(5)), code(fix(sign), op(22)), code(fix(sign), 0, op(21)), code(0, 0, 0, 0, fix(sign), 0, op(8)),
			code(fix(sign), 0, 0, 0, 0, 0, op(8)), code(0, 0, fix(sign), 0, 0, 0, op(8)), code(0, 0, 0, 0, 0, 0, fix(sign), 0, op(24)), code(fix(sign), 0, 0, 0, 0, 0, 0, 0, op(25)),
			code(fix(sign), 0, 0, 0, 0, op(26)), code(fix(sign), 0, 0, 0, op(27)), code(0, fix(sign), 0, 0, op(30)), code(fix(sign), 0, 0, 0, op(31)), code(0, 0, 0, 0, fix(sign), op(31)),
			code(0, 0, 0, 0, 0, 0, fix(sign), op(1234)), code(0, 0, 0, 0, 0, 0, 0, 0, 0, 0, fix(sign), 0, 0, op(1235)),
			code(0, 0, 0, 0, 0, 0, 0, 0, fix(sign), op(1236)), code(fix(sign), 0, 0, 0, 0, 0, 0, 0, 0, 0, 0, op(1237)),
		} {
			fails(t, noFix, code(far, op(22), last, op(14)))
		}
		for _, last := range [][]byte{
			code(fix(sign), op(7)), code(0, fix(sign), op(5)), code(fix(sign), op(4)), code(0, fix(sign), op(21)), code(0, 0, 0, fix(sign), 0, 0, op(8)),
			code(fix(sign), 0, 0, 0, op(26)), code(0, 0, 0, fix(sign), op(26)), code(fix(sign), 0, 0, 0, 0, op(27)), code(fix(sign), 0, 0, 0, op(30)), code(0, 0, 0, 0, fix(sign), op(30)), code(0, 0, 0, fix(sign), op(31)),
			code(0, 0, fix(sign), 0, 0, 0, 0, op(1234)), code(0, fix(sign), 0, 0, 0, 0, 0, 0, 0, op(1236)),
		} {
			fails(t, noFix, code(far, op(4), last, op(14)))
		}
	}
	// A number added that is no FIX, though the sum is one.
	least := row(28, 128, 0)
	for _, last := range [][]byte{code(least, op(6)), code(0, least, op(5)), code(least, op(22)), code(0, 0, 0, 0, least, 0, op(8)), code(0, 0, least, 0, 0, 0, 0, op(1234))} {
		fails(t, noFix, code(row(28, 127, 255), row(28, 127, 255), op(21), last, op(14)))
	}
}

// The sums of 1236 and 1237: from the first on, each with the next, reckoned ahead of drawing.
func TestFlexSums(t *testing.T) {
	big, back := fix(maxFix), fix(-maxFix)
	least := row(28, 128, 0)
	zeros := func(n int) []byte { return repeat(0, n) }
	ahead := code(0, op(22))
	// The numbers dy1, dy2, dy5 of 1236.
	level := func(a, b, c []byte) []byte {
		return code(ahead, 0, a, 0, b, 0, 0, 0, c, 0, op(1236), op(14))
	}
	runs(t, level(big, back, big))
	runs(t, level(big, zeros(1), back))
	for _, bad := range [][]byte{level(big, fix(1), back), level(back, fix(-1), big), level(fix(1), big, back), level(zeros(1), big, fix(1)), level(least, zeros(1), zeros(1)), level(zeros(1), zeros(1), least), level(zeros(1), least, big)} {
		fails(t, noFix, bad)
	}
	// 1237: five numbers along one way, the others 0.
	five := func(alongX bool, list ...[]byte) []byte {
		program := ahead
		for _, n := range list {
			if alongX {
				program = code(program, n, 0)
			} else {
				program = code(program, 0, n)
			}
		}
		return code(program, 0, op(1237), op(14))
	}
	z := zeros(1)
	for _, alongX := range []bool{true, false} {
		runs(t, five(alongX, big, back, big, back, big))
		runs(t, five(alongX, z, z, z, z, back))
		for _, bad := range [][][]byte{
			{big, fix(1), back, z, z}, {fix(1), big, back, z, z}, {z, z, z, big, fix(1)}, {back, z, z, z, fix(-1)}, {z, back, fix(-1), big, z},
			{least, z, z, z, z}, {big, least, z, z, z}, {z, z, z, z, least}, {z, z, big, least, z},
		} {
			fails(t, noFix, five(alongX, bad...))
		}
	}
	// They come ahead of a limit that the drawing meets, and behind the number of operands.
	full := code(0, op(22), bytes.Repeat(code(repeat(1, 48), op(6)), 85), repeat(1, 15), op(6))
	fails(t, many, code(full, zeros(9), op(1236), op(14)))
	fails(t, noFix, code(full, 0, big, 0, fix(1), zeros(5), op(1236), op(14)))
	fails(t, noFix, code(full, 0, big, 0, fix(1), zeros(7), op(1237), op(14)))
	fails(t, noFix, code(full, big, 0, fix(1), 0, zeros(7), op(1237), op(14)))
	fails(t, many, code(full, big, 0, fix(1), 0, zeros(5), op(1236), op(14))) // dx1 and dx2 have no sum of their own
	fails(t, wrong, code(ahead, 0, big, 0, fix(1), zeros(6), op(1236), op(14)))
	fails(t, wrong, code(ahead, 0, big, 0, fix(1), zeros(8), op(1237), op(14)))
	// The last number of each is none of the sums.
	fails(t, noFix, code(ahead, zeros(8), least, op(1236), op(14)))
	fails(t, noFix, code(ahead, zeros(10), least, op(1237), op(14)))
}

// As many knots as MaxPoints, and one more; the limit is met ahead of the sum.
func TestMaxPoints(t *testing.T) {
	most := code(0, op(22), bytes.Repeat(code(repeat(0, 48), op(6)), 85)) // 4081
	least := row(28, 128, 0)
	for _, c := range []struct {
		more  []byte
		fault api.Errno
	}{
		{code(repeat(0, 15), op(6)), 0}, {code(repeat(0, 16), op(6)), many}, {code(repeat(0, 15), op(6), repeat(0, 1), op(22)), many},
		{code(repeat(0, 30), op(8)), 0}, {code(repeat(0, 36), op(8)), many}, {code(repeat(0, 28), op(5), 0, op(4)), 0}, {code(repeat(0, 28), op(5), 0, op(4), 0, op(4)), many},
		{code(repeat(0, 14), op(7), repeat(0, 6), op(8)), many}, {code(repeat(0, 15), op(7), least, op(6)), many}, {code(repeat(0, 14), op(7), least, op(6)), noFix},
		{code(repeat(0, 15), op(7), least, op(22)), many}, {code(repeat(0, 14), op(7), 0, 0, least, op(8)), wrong}, {code(repeat(0, 14), op(7), 0, 0, least, 0, 0, 0, op(8)), many},
		{code(repeat(0, 13), op(7), 0, 0, least, 0, 0, 0, op(8)), noFix}, {code(repeat(0, 13), op(7), 0, 0, 0, 0, 0, 0, op(8)), many}, {code(repeat(0, 12), op(7), 0, 0, 0, 0, 0, 0, op(8)), 0},
	} {
		fails(t, c.fault, code(most, c.more, op(14)))
	}
	o, _, _ := opened(t, cff{programs: [][]byte{code(most, repeat(0, 15), op(6), op(14))}}).glyph(t, 0)
	if n := len(slices.Concat(o...)); n != 4096 {
		t.Error(n)
	}
}

// As many contours as MaxContours, and one more.
func TestMaxContours(t *testing.T) {
	most := bytes.Repeat(code(1, op(22)), 256)
	o, _, e := opened(t, cff{programs: [][]byte{code(most, op(14))}}).glyph(t, 0)
	if e != 0 || len(o) != 256 || !slices.Equal(o[255], knots(on(256, 0))) {
		t.Error(len(o), e)
	}
	runs(t, code(most, 1, op(6), op(14)))
	for _, move := range [][]byte{code(1, op(22)), code(1, op(4)), code(1, 1, op(21)), code(row(28, 128, 0), op(22)), code(row(28, 128, 0), op(4))} {
		fails(t, many, code(most, move, op(14)))
	}
	fails(t, wrong, code(most, 1, 1, op(22), op(14)))
	fails(t, wrong, code(most, op(21), op(14)))
}
