package type2_test

import (
	"bytes"
	"slices"
	"testing"

	"serif/api"
)

// The chapter's examples.
func TestExamples(t *testing.T) {
	gives(t, row(139, 139, 21, 149, 6, 14), outline(knots(on(0, 0), on(10, 0))), 500)
	gives(t, row(14), nil, 500)
}

// at: the X to which the operand moves, in whole numbers.
func at(t *testing.T, operand []byte, want int) {
	t.Helper()
	gives(t, code(operand, op(22), op(14)), outline(knots(on(want, 0))), 500)
}

// Each form of an operand in a program, at both ends of its range.
func TestOperands(t *testing.T) {
	for b := 32; b <= 246; b++ {
		at(t, row(byte(b)), b-139)
	}
	for _, c := range []struct {
		bytes []byte
		want  int
	}{
		{row(32), -107}, {row(246), 107},
		{row(247, 0), 108}, {row(247, 255), 363}, {row(250, 0), 876}, {row(250, 255), 1131},
		{row(251, 0), -108}, {row(251, 255), -363}, {row(254, 0), -876}, {row(254, 255), -1131},
		{row(28, 0, 0), 0}, {row(28, 127, 255), 32767}, {row(28, 128, 1), -32767}, {row(28, 255, 255), -1}, {row(28, 1, 2), 258},
		{row(255, 0, 1, 0, 0), 1}, {row(255, 255, 255, 0, 0), -1}, {row(255, 127, 255, 0, 0), 32767}, {row(255, 127, 255, 255, 255), 32768}, {row(255, 128, 0, 0, 1), -32768},
		{row(255, 0, 0, 0, 0), 0}, {row(255, 1, 2, 3, 4), 258},
	} {
		at(t, c.bytes, c.want)
	}
	// The least numbers of two and of four bytes are no FIX; they are operands all the same.
	for _, least := range [][]byte{{28, 128, 0}, {255, 128, 0, 0, 0}} {
		fails(t, noFix, code(least, op(22), op(14)))
		gives(t, code(least, op(14)), nil, 1000-32768)
		runs(t, code(least, least, op(1), op(14)))
	}
	for _, cut := range [][]byte{{247}, {250}, {251}, {254}, {28}, {28, 1}, {255}, {255, 1}, {255, 1, 2}, {255, 1, 2, 3}, {12}} {
		fails(t, wrong, cut)
		// The next program's bytes aren't this one's.
		failsIn(t, wrong, cff{programs: [][]byte{cut, {14, 14, 14, 14, 14}}})
		failsIn(t, wrong, cff{programs: [][]byte{code(-107, op(10), op(14))}, locals: [][]byte{cut, {14, 14, 14, 14}}})
	}
}

// The nearest of coordinates and of a width's operand: halves, above and below 0.
func TestNearest(t *testing.T) {
	for _, c := range []struct{ n, want int }{
		{0, 0}, {1, 0}, {32767, 0}, {32768, 1}, {32769, 1}, {65535, 1}, {65536, 1}, {98303, 1}, {98304, 2},
		{-1, 0}, {-32767, 0}, {-32768, -1}, {-32769, -1}, {-65536, -1}, {-98303, -1}, {-98304, -2},
		{2147483647, 32768}, {-2147483647, -32768}, {2147450879, 32767}, {2147450880, 32768},
	} {
		at(t, fix(c.n), c.want)
		gives(t, code(fix(c.n), op(4), op(14)), outline(knots(on(0, c.want))), 500)
		gives(t, code(fix(c.n), op(14)), nil, 1000+c.want)
		gives(t, code(0, op(22), fix(c.n), fix(-c.n), fix(c.n), 0, op(27), op(14)), outline(knots(on(0, 0), cubic(c.want, 0), cubic(0, c.want), on(0, c.want))), 500)
	}
	// What is rounded is the sum, not what is added to it.
	gives(t, code(fix(16384), op(22), fix(16384), op(6), fix(32768), op(6), fix(-1), op(6), op(14)), outline(knots(on(0, 0), on(1, 0), on(1, 0), on(1, 0))), 500)
	gives(t, code(fix(-30000), op(4), fix(-2768), op(7), fix(1), op(7), op(14)), outline(knots(on(0, 0), on(0, -1), on(0, 0))), 500)
}

// MaxStack operands, and one more.
func TestStack(t *testing.T) {
	gives(t, code(0, op(22), repeat(1, 48), op(6), op(14)), outline(stairs(48)), 500)
	for _, one := range [][]byte{{140}, {247, 0}, {251, 0}, {28, 0, 1}, {255, 0, 1, 0, 0}} {
		fails(t, many, code(0, op(22), repeat(1, 48), one, op(6), op(14)))
		fails(t, many, code(repeat(1, 48), one))
		runs(t, code(0, op(22), repeat(1, 47), one, op(6), op(14)))
	}
	// An operand that is cut short isn't laid on it.
	fails(t, wrong, code(repeat(1, 48), row(28, 1)))
	// A call takes one off.
	c := cff{programs: [][]byte{code(0, op(22), repeat(1, 47), -107, op(10), op(6), op(14))}, locals: [][]byte{code(1, op(11)), code(1, 1, op(11))}}
	givesIn(t, c, outline(stairs(48)), 0)
	c.programs[0] = code(0, op(22), repeat(1, 47), -106, op(10), op(6), op(14))
	failsIn(t, many, c)
	// Operators leave it empty.
	gives(t, code(0, op(22), repeat(1, 48), op(6), repeat(1, 48), op(6), op(14)), outline(slices.Concat(stairs(48), stairsFrom(24, 24, 48)[1:])), 500)
}

// stairs: n lines by 1 along x and y in turn.
func stairs(n int) []api.Knot { return stairsFrom(0, 0, n) }

func stairsFrom(x, y, n int) []api.Knot {
	out := knots(on(x, y))
	for i := range n {
		out = append(out, on(x+(i+2)/2, y+(i+1)/2))
	}
	return out
}

// The width with stems, with masks, with each move and with the end: told and not told.
func TestWidth(t *testing.T) {
	none, moved := [][]api.Knot(nil), outline(knots(on(3, 0)))
	for _, c := range []struct {
		code  []byte
		want  [][]api.Knot
		width int
	}{
		{code(op(14)), none, 500}, {code(7, op(14)), none, 1007}, {code(-7, op(14)), none, 993}, {code(0, op(14)), none, 1000},
		{code(3, op(22), op(14)), moved, 500}, {code(7, 3, op(22), op(14)), moved, 1007},
		{code(3, op(4), op(14)), outline(knots(on(0, 3))), 500}, {code(7, 3, op(4), op(14)), outline(knots(on(0, 3))), 1007},
		{code(3, 4, op(21), op(14)), outline(knots(on(3, 4))), 500}, {code(7, 3, 4, op(21), op(14)), outline(knots(on(3, 4))), 1007},
		{code(1, 2, op(1), op(14)), none, 500}, {code(7, 1, 2, op(1), op(14)), none, 1007}, {code(7, op(1), op(14)), none, 1007}, {code(op(1), op(14)), none, 500},
		{code(1, 2, op(3), op(14)), none, 500}, {code(7, 1, 2, op(3), op(14)), none, 1007},
		{code(1, 2, op(18), op(14)), none, 500}, {code(7, 1, 2, op(18), op(14)), none, 1007},
		{code(1, 2, op(23), op(14)), none, 500}, {code(7, 1, 2, op(23), op(14)), none, 1007},
		{code(op(19), op(14)), none, 500}, {code(7, op(19), op(14)), none, 1007}, {code(1, 2, op(19), row(255), op(14)), none, 500}, {code(7, 1, 2, op(19), row(255), op(14)), none, 1007},
		{code(op(20), op(14)), none, 500}, {code(7, op(20), op(14)), none, 1007}, {code(1, 2, op(20), row(255), op(14)), none, 500}, {code(7, 1, 2, op(20), row(255), op(14)), none, 1007},
		{code(7, repeat(1, 46), op(18), op(14)), none, 1007}, {code(repeat(9, 47), op(1), op(14)), none, 1009},
		{code(7, 1, 2, op(1), 1, 2, op(3), op(19), row(0), 3, op(22), op(14)), moved, 1007},
		{code(fix(7*65536+32767), op(14)), none, 1007}, {code(fix(7*65536+32768), op(14)), none, 1008}, {code(fix(-7*65536-32768), op(19), op(14)), none, 992},
	} {
		gives(t, c.code, c.want, c.width)
	}
	// W1 is added to the nearest, W0 is as it is, and both are 0 if the font tells none.
	for _, c := range []struct {
		private []byte
		w0, w1  int
	}{
		{nil, 0, 0}, {[]byte{}, 0, 0}, {code(5, op(20)), 5, 0}, {code(5, op(21)), 0, 5}, {code(-5, op(20), -6, op(21)), -5, -6},
		{code(long(2147483647), op(20), long(2147483647), op(21)), 2147483647, 2147483647}, {code(long(-2147483648), op(20), long(-2147483648), op(21)), -2147483648, -2147483648},
		{code(row(30, 0x1F), op(20), row(30, 0x1F), op(21)), 0, 0},
	} {
		givesIn(t, cff{private: c.private, programs: [][]byte{{14}}}, nil, c.w0)
		givesIn(t, cff{private: c.private, programs: [][]byte{code(7, op(14))}}, nil, 7+c.w1)
		givesIn(t, cff{private: c.private, programs: [][]byte{code(row(28, 127, 255), op(14))}}, nil, 32767+c.w1)
		givesIn(t, cff{private: c.private, programs: [][]byte{code(row(28, 128, 0), op(14))}}, nil, -32768+c.w1)
	}
}

// The width is told only at the first of the operators that may tell it.
func TestWidthOnce(t *testing.T) {
	firsts := [][]byte{code(1, 2, op(1)), code(7, 1, 2, op(1)), code(op(1)), code(op(19)), code(7, op(20)), code(3, op(22)), code(7, 3, op(22)), code(3, op(4)), code(7, 1, 2, op(21))}
	for _, first := range firsts {
		stems := 0
		if first[len(first)-1] == 1 && len(first) > 1 {
			stems = 1
		}
		mask := bytes.Repeat(row(0), stems)
		for _, second := range [][]byte{code(1, 2, op(3)), code(op(18)), code(op(19), mask), code(1, 2, op(20), row(0)), code(3, op(22)), code(3, op(4)), code(1, 2, op(21)), nil} {
			runs(t, code(first, second, op(14)))
		}
		for _, second := range [][]byte{code(1, 1, 2, op(3)), code(1, op(18)), code(1, op(19), row(0)), code(1, 1, 2, op(20), row(0)), code(1, 3, op(22)), code(1, 3, op(4)), code(1, 1, 2, op(21)), code(1)} {
			fails(t, wrong, code(first, second, op(14)))
		}
	}
}

// How many operands the operators take that may tell the width, at first and later.
func TestCounts(t *testing.T) {
	for n := range 49 {
		for o, listed := range map[op]int{21: 2, 22: 1, 4: 1} {
			want := wrong
			if n == listed {
				want = 0
			}
			fails(t, want, code(op(18), rising(n), o, op(14)))
			if n == listed+1 {
				want = 0
			}
			fails(t, want, code(rising(n), o, op(14)))
		}
		for _, o := range []op{1, 3, 18, 23} {
			runs(t, code(rising(n), o, op(14)))
			if n%2 == 0 {
				runs(t, code(0, op(22), rising(n), o, op(14)))
			} else {
				fails(t, wrong, code(0, op(22), rising(n), o, op(14)))
			}
		}
		for _, o := range []op{19, 20} {
			mask := bytes.Repeat(row(255), (n/2+7)/8)
			runs(t, code(rising(n), o, mask, op(14)))
			if n%2 == 0 {
				runs(t, code(0, op(22), rising(n), o, mask, op(14)))
			} else {
				fails(t, wrong, code(0, op(22), rising(n), o, mask, op(14)))
			}
		}
	}
}

// The end: with each number of operands, where the width may be taken and where it was.
func TestEnd(t *testing.T) {
	for n := range 49 {
		first, later := wrong, wrong
		switch n {
		case 0:
			first, later = 0, 0
		case 1:
			first = 0
		case 4:
			first, later = kind, kind
		case 5:
			first = kind
		}
		fails(t, first, code(rising(n), op(14)))
		fails(t, later, code(op(1), rising(n), op(14)))
		fails(t, later, code(9, op(19), rising(n), op(14)))
		fails(t, later, code(0, op(22), rising(n), op(14)))
	}
	// What stands behind isn't looked at.
	for _, behind := range [][]byte{{0}, {12}, {255}, {28, 1}, code(1, op(5)), {14}} {
		gives(t, code(op(14), behind), nil, 500)
	}
	// Moves alone are contours; one that isn't closed is none the less.
	gives(t, code(1, op(22), 2, op(4), op(14)), outline(knots(on(1, 0)), knots(on(1, 2))), 500)
}

// Stems, up to MaxStems and one more.
func TestStems(t *testing.T) {
	all := code(repeat(1, 48), op(1), repeat(1, 48), op(3), repeat(1, 48), op(18), repeat(1, 48), op(23))
	runs(t, code(all, op(14)))
	runs(t, code(all, op(1), op(3), op(14)))
	runs(t, code(all, op(19), bytes.Repeat(row(0), 12), op(20), bytes.Repeat(row(12), 12), op(14)))
	for _, o := range []op{1, 3, 18, 23, 19, 20} {
		fails(t, many, code(all, 1, 1, o, bytes.Repeat(row(0), 13), op(14)))
		fails(t, many, code(all, 1, 1, o)) // ahead of the mask's bytes
		fails(t, wrong, code(all, 1, 1, 1, o))
		fails(t, many, code(all, repeat(1, 48), o))
		// 95 are there, and one more.
		var mask []byte
		if o == 19 || o == 20 {
			mask = bytes.Repeat(row(0), 12)
		}
		runs(t, code(repeat(1, 46), op(1), repeat(1, 48), op(1), repeat(1, 48), op(1), repeat(1, 48), op(1), 1, 1, o, mask, op(14)))
	}
	// They are counted over routines, too; drawing changes nothing of it.
	c := cff{programs: [][]byte{code(-107, op(10), -107, op(10), 0, op(22), 1, op(6), -107, op(10), -107, op(10), op(14))}, locals: [][]byte{code(repeat(1, 48), op(1), op(11))}}
	failsIn(t, 0, c)
	c.programs[0] = code(-107, op(10), -107, op(10), -107, op(10), -107, op(10), 1, 1, op(1), op(14))
	failsIn(t, many, c)
}

// Masks of 0, 1, 8 and 9 stems, whose bytes are there and aren't.
func TestMasks(t *testing.T) {
	for _, o := range []op{19, 20} {
		for stems := range 25 {
			size := (stems + 7) / 8
			for n := range 6 {
				want := api.Errno(0)
				if n < size {
					want = wrong
				} else if n > size {
					want = kind // the operator 0
				}
				// The bytes say nothing: they may be operators and operands.
				for _, b := range []byte{0, 14, 28, 255} {
					if want != kind || b == 0 {
						told := code(rising(2*stems), o, bytes.Repeat(row(b), n))
						ahead := code(rising(2*stems), op(18), o, bytes.Repeat(row(b), n))
						if n >= size {
							told, ahead = code(told, op(14)), code(ahead, op(14))
						}
						fails(t, want, told)
						fails(t, want, ahead)
					}
				}
			}
		}
		// The bytes lie behind the mask in the same routine.
		c := cff{programs: [][]byte{code(1, 1, op(1), -107, op(10), row(0), op(14))}, locals: [][]byte{o.bytes()}}
		failsIn(t, wrong, c)
		c = cff{programs: [][]byte{code(1, 1, op(1), -107, op(10), op(14))}, locals: [][]byte{code(o, row(0), op(11))}}
		failsIn(t, 0, c)
	}
}

// Lines and curves ahead of the first move.
func TestAheadOfMove(t *testing.T) {
	for o, n := range map[op]int{5: 2, 6: 1, 7: 1, 8: 6, 24: 8, 25: 8, 26: 4, 27: 4, 30: 4, 31: 4, 1234: 7, 1235: 13, 1236: 9, 1237: 11} {
		fails(t, wrong, code(rising(n), o, op(14)))
		fails(t, wrong, code(rising(n), o, 0, op(22), op(14)))
		fails(t, wrong, code(op(1), op(19), rising(n), o, op(14)))
		runs(t, code(0, op(22), rising(n), o, op(14)))
	}
	// It is asked ahead of the sum, and behind the sums that are reckoned ahead of drawing.
	least := row(28, 128, 0)
	fails(t, wrong, code(least, op(6)))
	fails(t, noFix, code(0, least, 0, 0, 0, 0, 0, 0, 0, op(1236)))
	fails(t, noFix, code(0, least, 0, 0, 0, 0, 0, 0, 0, 0, 0, op(1237)))
	fails(t, wrong, code(least, 0, 0, 0, 0, 0, 0, 0, 0, op(1236)))
}

// Operators that aren't known, with any number of operands.
func TestUnknown(t *testing.T) {
	known := []int{1, 3, 4, 5, 6, 7, 8, 10, 11, 14, 18, 19, 20, 21, 22, 23, 24, 25, 26, 27, 29, 30, 31}
	for b := range 32 {
		if b == 28 || b == 12 || slices.Contains(known, b) {
			continue
		}
		for n := range 49 {
			fails(t, kind, code(rising(n), row(byte(b)), op(14)))
			fails(t, kind, code(0, op(22), rising(n), row(byte(b)), op(14)))
		}
	}
	for w := range 256 {
		for _, n := range []int{0, 1, 2, 6, 7, 9, 11, 13, 48} {
			want := kind
			if w >= 34 && w <= 37 {
				want = wrong
				if n == map[int]int{34: 7, 35: 13, 36: 9, 37: 11}[w] {
					want = 0
				}
			}
			fails(t, want, code(0, op(22), rising(n), row(12, byte(w)), op(14)))
		}
	}
}
