package type2_test

import (
	"bytes"
	"slices"
	"testing"

	"serif/api"
)

// The two calls: of local and of global routines.
var calls = []op{10, 29}

// with: a font of this program, whose routines of the one kind are these.
func with(call op, routines [][]byte, program ...any) cff {
	c := cff{programs: [][]byte{code(program...)}}
	if call == 10 {
		c.locals = routines
	} else {
		c.globals = routines
	}
	return c
}

func TestCalls(t *testing.T) {
	drawn := outline(knots(on(3, 0), on(8, 0), on(8, 6)))
	for _, call := range calls {
		// The operands are the program's and the routine's together.
		givesIn(t, with(call, [][]byte{code(6, op(6), op(11))}, 3, op(22), 5, -107, call, op(14)), drawn, 0)
		givesIn(t, with(call, [][]byte{code(5, 6, op(11))}, 3, op(22), -107, call, op(6), op(14)), drawn, 0)
		givesIn(t, with(call, [][]byte{code(op(22), 5, 6, op(6), op(14))}, 7, 3, -107, call), drawn, 7)
		givesIn(t, with(call, [][]byte{code(op(11))}, 3, -107, call, op(22), 5, -107, call, -107, call, 6, -107, call, op(6), -107, call, op(14)), drawn, 0)
		// Routines by their numbers, the last one, and those that aren't there.
		three := [][]byte{code(1, op(11)), code(2, op(11)), code(3, op(11))}
		for i, x := range []int{1, 2, 3} {
			givesIn(t, with(call, three, i-107, call, op(22), op(14)), outline(knots(on(x, 0))), 0)
		}
		for _, n := range []int{-108, -104, -103, 0, 107, -1131, 1131, 32767, -32768} {
			failsIn(t, wrong, with(call, three, n, call, op(22), op(14)))
		}
		failsIn(t, wrong, with(call, three, call, op(22), op(14))) // no operand
		failsIn(t, wrong, with(call, three, 1, op(22), call, op(14)))
		failsIn(t, wrong, with(call, three, -107, call, call)) // 1 is no routine's number
		failsIn(t, wrong, with(call, nil, -107, call, op(14)))
		failsIn(t, wrong, with(call, nil, 0, call, op(14)))
	}
	// Local and global routines are not the same.
	c := cff{locals: [][]byte{code(1, op(11))}, globals: [][]byte{code(2, op(11)), code(4, op(11))}, programs: [][]byte{code(-107, op(10), op(22), -107, op(29), op(6), -106, op(29), op(6), op(14))}}
	givesIn(t, c, outline(knots(on(1, 0), on(3, 0), on(7, 0))), 0)
	c.programs[0] = code(-106, op(10), op(22), op(14))
	failsIn(t, wrong, c)
}

// The number of a routine is rounded down, below 0 too.
func TestCallRounds(t *testing.T) {
	routines := make([][]byte, 120)
	for i := range routines {
		routines[i] = code(i, op(11))
	}
	for _, call := range calls {
		for _, c := range []struct{ n, want int }{
			{0, 107}, {1, 107}, {65535, 107}, {65536, 108}, {-1, 106}, {-65535, 106}, {-65536, 106}, {-65537, 105}, {-98304, 105}, {98304, 108},
			{-107 * 65536, 0}, {-107*65536 + 65535, 0}, {12 * 65536, 119}, {12*65536 + 65535, 119},
		} {
			givesIn(t, with(call, routines, fix(c.n), call, op(22), op(14)), outline(knots(on(c.want, 0))), 0)
		}
		for _, n := range []int{-107*65536 - 1, 13 * 65536, 2147483647, -2147483648} {
			failsIn(t, wrong, with(call, routines, fix(n), call, op(22), op(14)))
		}
	}
}

// The bias, at the numbers of routines where it changes.
func TestBias(t *testing.T) {
	for _, c := range []struct{ routines, bias int }{
		{1, 107}, {2, 107}, {1239, 107}, {1240, 1131}, {1241, 1131}, {33899, 1131}, {33900, 32768}, {33901, 32768}, {65535, 32768},
	} {
		for _, call := range calls {
			routines := slices.Repeat([][]byte{{11}}, c.routines)
			routines[0], routines[c.routines-1] = code(1, op(11)), code(2, op(11))
			first, last := 1, 2
			if c.routines == 1 {
				first = 2
			}
			for _, try := range []struct {
				number int
				fault  api.Errno
				want   int
			}{{0, 0, first}, {c.routines - 1, 0, last}, {-1, wrong, 0}, {c.routines, wrong, 0}} {
				operand := try.number - c.bias
				if operand < -32768 || operand > 32767 {
					continue // no operand says it
				}
				p := opened(t, with(call, routines, operand, call, op(22), op(14)))
				o, _, e := p.glyph(t, 0)
				if e != try.fault || e == 0 && !same(o, outline(knots(on(try.want, 0)))) {
					t.Error(c, call, try, o, e)
				}
			}
		}
	}
	// Each kind has its own bias.
	c := cff{locals: [][]byte{code(1, op(11))}, globals: slices.Repeat([][]byte{code(2, op(11))}, 1240), programs: [][]byte{code(-107, op(10), op(22), -1131, op(29), op(6), op(14))}}
	givesIn(t, c, outline(knots(on(1, 0), on(3, 0))), 0)
}

// chain: routines of which each calls the next one, and the last one does nothing.
func chain(n int, call op) [][]byte {
	var out [][]byte
	for i := range n - 1 {
		out = append(out, code(i+1-107, call, op(11)))
	}
	return append(out, row(11))
}

// MaxCalls calls within one another, and one more.
func TestMaxCalls(t *testing.T) {
	for _, call := range calls {
		for n, fault := range map[int]api.Errno{1: 0, 2: 0, 9: 0, 10: 0, 11: many, 12: many, 30: many} {
			failsIn(t, fault, with(call, chain(n, call), -107, call, op(14)))
		}
		// As many as one likes, one behind the other.
		failsIn(t, 0, with(call, chain(10, call), bytes.Repeat(code(-107, call), 100), op(14)))
		failsIn(t, 0, with(call, [][]byte{{11}}, bytes.Repeat(code(-107, call), 5000), op(14)))
		// A routine that isn't there is met ahead of the limit, and so is a call without operand.
		deep := chain(10, call)
		deep[9] = code(50, call)
		failsIn(t, wrong, with(call, deep, -107, call, op(14)))
		deep[9] = code(call)
		failsIn(t, wrong, with(call, deep, -107, call, op(14)))
		deep[9] = code(-107, call)
		failsIn(t, many, with(call, deep, -107, call, op(14)))
		// 14 within a routine ends all.
		deep[9] = code(9, op(14))
		givesIn(t, with(call, deep, -107, call, row(0)), nil, 9)
		// A routine that calls itself.
		failsIn(t, many, with(call, [][]byte{code(-107, call)}, -107, call))
		failsIn(t, many, with(call, [][]byte{code(-107, call, op(11))}, -107, call, op(14)))
		failsIn(t, many, with(call, [][]byte{code(-106, call), code(-107, call)}, -107, call, op(14)))
	}
	// Both kinds count together: five of the one and five of the other, and one more.
	for last, fault := range map[int]api.Errno{5: 0, 6: many} {
		locals, globals := [][]byte{}, [][]byte{}
		for i := range last {
			locals = append(locals, code(i-107, op(29), op(11)))
			globals = append(globals, code(i+1-107, op(10), op(11)))
		}
		globals[last-1] = row(11)
		failsIn(t, fault, cff{locals: locals, globals: globals, programs: [][]byte{code(-107, op(10), op(14))}})
	}
}

// Returns, and codes that end without 14 or 11.
func TestReturns(t *testing.T) {
	fails(t, wrong, row(11))
	fails(t, wrong, code(0, op(22), op(11), op(14)))
	fails(t, wrong, nil)
	for _, open := range [][]byte{code(1), code(0, op(22)), code(0, op(22), 1, op(6)), code(op(1)), code(op(19))} {
		fails(t, wrong, open)
		for _, call := range calls {
			failsIn(t, wrong, with(call, [][]byte{open}, -107, call, op(14)))
			failsIn(t, wrong, with(call, [][]byte{join(open, row(11))}, -107, call))
		}
	}
	for _, call := range calls {
		failsIn(t, wrong, with(call, [][]byte{nil}, -107, call, op(14)))
		failsIn(t, wrong, with(call, [][]byte{{11}}, -107, call, op(11), op(14)))
		// What stands behind a return isn't looked at.
		givesIn(t, with(call, [][]byte{row(11, 0, 12)}, -107, call, op(14)), nil, 0)
		// A return leaves the operands.
		givesIn(t, with(call, [][]byte{code(3, 4, op(11))}, -107, call, op(21), op(14)), outline(knots(on(3, 4))), 0)
	}
}

// MaxFuel bytes that begin an operand or operator, and one more.
func TestFuel(t *testing.T) {
	stem := code(op(1))
	for n, fault := range map[int]api.Errno{19998: 0, 19999: 0, 20000: many, 20001: many, 30000: many} {
		fails(t, fault, code(bytes.Repeat(stem, n), op(14)))
	}
	// With no end: the bytes end ahead of the one that would be above.
	fails(t, wrong, bytes.Repeat(stem, 19999))
	fails(t, wrong, bytes.Repeat(stem, 20000))
	fails(t, many, bytes.Repeat(stem, 20001))
	// What is wrong with it is met behind that.
	fails(t, wrong, code(bytes.Repeat(stem, 19999), op(11)))
	fails(t, many, code(bytes.Repeat(stem, 20000), op(11)))
	fails(t, many, code(bytes.Repeat(stem, 20000), row(0)))
	fails(t, kind, code(bytes.Repeat(stem, 19999), row(0)))
	fails(t, many, code(bytes.Repeat(stem, 20000), row(12)))
	fails(t, many, code(bytes.Repeat(stem, 20000), row(28)))
	fails(t, wrong, code(bytes.Repeat(stem, 19999), row(28)))
	// Each form of an operand counts once, and so do an operator of two bytes and a mask with its bytes.
	for _, c := range []struct {
		ahead, again []byte
		size         int
	}{
		{nil, code(fix(0), row(28, 0, 0), row(247, 0), row(251, 0), 0, 0, 0, 0, op(1)), 9},
		{code(1, 1, op(1)), code(op(19), row(1)), 1}, {code(repeat(1, 18), op(1)), code(op(20), row(0, 14)), 1},
		{code(1, op(22)), code(0, 0, 0, 0, 0, 0, 0, op(1234)), 8},
	} {
		begun := len(c.ahead) // each of its bytes begins one
		times := (19999 - begun) / c.size
		if c.size > 1 {
			times = min(times, 10) // there are limits of stems and of knots, too
		}
		rest := 19999 - begun - times*c.size
		program := code(c.ahead, bytes.Repeat(c.again, times), bytes.Repeat(stem, rest), op(14))
		runs(t, program)
		fails(t, many, code(op(1), program))
	}
	// It is counted over routines: 200 times 100, and the calls.
	for _, call := range calls {
		routine := [][]byte{code(bytes.Repeat(stem, 96), op(11))} // 99 with its call
		failsIn(t, 0, with(call, routine, bytes.Repeat(code(-107, call), 202), stem, op(14)))
		failsIn(t, many, with(call, routine, bytes.Repeat(code(-107, call), 202), stem, stem, op(14)))
	}
	// Routines that call each other twice: as many ways as there are, ended by the fuel.
	twice := [][]byte{}
	for i := range 9 {
		twice = append(twice, code(i+1-107, op(10), i+1-107, op(10), i+1-107, op(10), op(11)))
	}
	twice = append(twice, row(11))
	failsIn(t, many, cff{locals: twice, programs: [][]byte{code(-107, op(10), op(14))}})
}
