package hint_test

import (
	"encoding/hex"
	"slices"
	"strings"
	"testing"

	"serif/api"
	"serif/hint"
)

// code: a program's parts, one behind the other: texts are bytes in hexadecimal digits, numbers are pushed by B8.
func code(parts ...any) []byte {
	var out []byte
	for _, part := range parts {
		switch p := part.(type) {
		case string:
			list, err := hex.DecodeString(strings.ReplaceAll(p, " ", ""))
			if err != nil {
				panic(err)
			}
			out = append(out, list...)
		case int:
			if p != int(int16(p)) {
				panic("too far for two bytes")
			}
			out = append(out, 0xB8, byte(p>>8), byte(p))
		case []byte:
			out = append(out, p...)
		case byte:
			out = append(out, p)
		}
	}
	return out
}

// times: a part so many times.
func times(n int, parts ...any) []byte { return slices.Repeat(code(parts...), n) }

// function: the definition of a function in Fpgm or Prep.
func function(k int, parts ...any) []byte { return code(k, "2C", code(parts...), "2D") }

// plain: a font in which a unit is one at the size, with these control values.
func plain(values ...int) api.HintFont { return api.HintFont{Size: 64, Units: 64, Cvt: values} }

// with: the font with these programs.
func with(f api.HintFont, fpgm, prep []byte) api.HintFont {
	f.Fpgm, f.Prep = fpgm, prep
	return f
}

// values: pushes the first n control values.
func values(n int) []byte {
	var out []byte
	for i := range n {
		out = append(out, code(i, "45")...)
	}
	return out
}

// row: a zone of one contour along x, the points where they were; y is 0.
func row(xs ...int) api.Zone {
	z := filled(len(xs))
	for p, x := range xs {
		z.Org[p].X, z.Cur[p].X = x, x
	}
	if len(xs) > 0 {
		z.Ends = []int{len(xs) - 1}
	}
	return z
}

// moved: the zone with points that are elsewhere along x.
func moved(z api.Zone, xs ...int) api.Zone {
	z = deep(z)
	for p, x := range xs {
		z.Cur[p].X = x
	}
	return z
}

// touched: the zone in which just these points are touched along x.
func touched(z api.Zone, points ...int) api.Zone {
	z = deep(z)
	z.TouchX = make([]bool, len(z.TouchX))
	for _, p := range points {
		z.TouchX[p] = true
	}
	return z
}

// turned: the zone with its axes the one in the place of the other.
func turned(z api.Zone) api.Zone {
	z = deep(z)
	for p := range z.Org {
		z.Org[p].X, z.Org[p].Y = z.Org[p].Y, z.Org[p].X
		z.Cur[p].X, z.Cur[p].Y = z.Cur[p].Y, z.Cur[p].X
	}
	z.TouchX, z.TouchY = z.TouchY, z.TouchX
	return z
}

// refused: the call is refused with the error, and answers nothing.
func refused(t *testing.T, name string, f api.HintFont, z api.Zone, c []byte, want api.Errno) {
	t.Helper()
	got, e := hint.Run(f, z, c)
	if e != want || got.Org != nil || got.Cur != nil || got.TouchX != nil || got.TouchY != nil || got.Ends != nil {
		t.Errorf("%s: %x: %v, %v; not %v", name, c, got, e, want)
	}
}

// hinted: the call answers the zone; along y it answers the same, turned.
func hinted(t *testing.T, name string, f api.HintFont, z api.Zone, c []byte, right api.Zone) {
	t.Helper()
	if got, e := hint.Run(f, z, c); e != 0 || !same(got, right) {
		t.Errorf("%s: %x: %v, %v; not %v", name, c, got, e, right)
	}
	along := code("00", c)
	if got, e := hint.Run(f, turned(z), along); e != 0 || !same(got, turned(right)) {
		t.Errorf("%s along y: %x: %v, %v; not %v", name, along, got, e, turned(right))
	}
}

// shown: how many points of the zone in which stackBehind lays out a stack.
const shown = maxStack + 1

// layOut: a program that puts point 0 at how many numbers lie on the stack and, from point 1 on, a point at each of them, the bottom one first. The stack needs room for two.
func layOut() []byte {
	begin := code("01", "B0 01 15", "24 B0 00 23 48")
	// 24: d. If d is 0, goes on behind all; else a point at the top number, and back.
	loop := code("24 B0 08 23 79", "24 23 48", "B8 FF F5 1C")
	return append(begin, loop...)
}

// stackBehind: the numbers that lie on the stack behind a glyph's program, from the bottom up.
func stackBehind(f api.HintFont, c []byte) ([]int, api.Errno) {
	z, e := hint.Run(f, filled(shown), append(slices.Clone(c), layOut()...))
	if e != 0 {
		return nil, e
	}
	var out []int
	for p := range z.Cur[0].X {
		out = append(out, z.Cur[p+1].X)
	}
	return out, 0
}

// leaves: behind the program just these numbers lie on the stack.
func leaves(t *testing.T, name string, f api.HintFont, c []byte, right ...int) {
	t.Helper()
	if got, e := stackBehind(f, c); e != 0 || !slices.Equal(got, right) {
		t.Errorf("%s: %x: %v, %v; not %v", name, c, got, e, right)
	}
}

// leavesOf: of these numbers the instructions leave those.
func leavesOf(t *testing.T, ops string, of []int, right ...int) {
	t.Helper()
	leaves(t, ops, plain(of...), code(values(len(of)), ops), right...)
}

// failsOf: of these numbers the instructions are refused.
func failsOf(t *testing.T, ops string, want api.Errno, of ...int) {
	t.Helper()
	refused(t, ops, plain(of...), filled(shown), code(values(len(of)), ops), want)
}

func TestLayOut(t *testing.T) {
	leaves(t, "nothing", plain(), nil)
	leaves(t, "one", plain(), code(-7), -7)
	leaves(t, "three", plain(maxFix, -maxFix), code(values(2), 5), maxFix, -maxFix, 5)
	var many []int
	for n := range maxStack - 2 {
		many = append(many, n-100)
	}
	c := code()
	for _, n := range many {
		c = code(c, n)
	}
	leaves(t, "many", plain(), c, many...)
}
