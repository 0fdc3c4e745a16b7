package hint_test

import (
	"fmt"
	"slices"
	"testing"

	"serif/api"
	"serif/hint"
)

// asked is a point that an instruction asks for: of zp0, zp1 or zp2, and a program that asks for the point p. All other points that it asks for are 0.
type asked struct {
	pointer int
	of      func(p int) []byte
}

// allAsked: all points of all instructions.
func allAsked() map[string]asked {
	out := map[string]asked{}
	top := func(pointer int, list ...string) {
		for _, op := range list {
			out[op] = asked{pointer, func(p int) []byte { return code(p, op) }}
		}
	}
	second := func(pointer int, list ...string) {
		for _, op := range list {
			out[op+", below"] = asked{pointer, func(p int) []byte { return code(p, "B0 00", op) }}
		}
	}
	reference := func(pointer int, set string, list ...string) {
		for _, op := range list {
			out[op+", "+set] = asked{pointer, func(p int) []byte { return code(p, set, "B1 00 00", op) }}
		}
	}
	var direct, indirect []string
	for n := range 32 {
		direct, indirect = append(direct, fmt.Sprintf("%02X", 0xC0+n)), append(indirect, fmt.Sprintf("%02X", 0xE0+n))
	}
	top(0, "2E", "2F")
	second(0, "3E", "3F", "49", "4A")
	top(1, append(direct, "3C")...)
	out["49"] = asked{1, func(p int) []byte { return code("B0 00", p, "49") }}
	out["4A"] = asked{1, func(p int) []byte { return code("B0 00", p, "4A") }}
	second(1, append(indirect, "3A", "3B")...)
	reference(0, "10", slices.Concat(direct, indirect, []string{"3A", "3B", "3C"})...)
	top(2, "32", "33", "39", "46", "47")
	second(2, "38", "48")
	reference(0, "11", "33", "39")
	reference(1, "12", "32", "39")
	return out
}

// P10.4: a point must be one that its zone has.
func TestPointsThere(t *testing.T) {
	count := 0
	for name, a := range allAsked() {
		for zone, last := range []int{15, 2} {
			for _, axis := range []string{"00", "01"} {
				begin := code(axis, zone, byte(0x13+a.pointer))
				for _, p := range []int{0, 1, last} {
					if _, e := hint.Run(plain(0), row(5, 70, 40), code(begin, a.of(p))); e != 0 {
						t.Error(name, zone, p, e)
					}
				}
				for _, p := range []int{-1, last + 1, last + 2, -16, 32767, -32768} {
					refused(t, name, plain(0), row(5, 70, 40), code(begin, a.of(p)), 101)
				}
				count++
			}
		}
	}
	// Two bytes name no point that is as far as FIX goes.
	for _, far := range []int{maxFix, -maxFix} {
		for _, ops := range []string{"B0 00 45 2E", "B0 00 45 C0", "B0 00 45 46", "B0 00 45 10 B0 00 3C", "B0 00 45 3C"} {
			refused(t, "far", plain(far), row(5, 70, 40), code(ops), 101)
		}
	}
	if count != 4*(2+4+32+3+32+2+67+5+2+2+2) {
		t.Error(count)
	}
}

// P10.4: what a zone has no points for can't be asked; nor a control value that isn't there.
func TestNothingThere(t *testing.T) {
	for name, a := range allAsked() {
		refused(t, name, plain(0), api.Zone{}, a.of(0), 101)
	}
	for n := range 32 {
		for _, i := range []int{-1, 1, 2} {
			refused(t, "no value", plain(0), row(5, 70), code(1, i, byte(0xE0+n)), 101)
		}
		refused(t, "no values", plain(), row(5, 70), code(1, 0, byte(0xE0+n)), 101)
	}
	for _, op := range []string{"3E", "3F"} {
		for _, i := range []int{-1, 1, 2} {
			refused(t, "no value", plain(0), row(5, 70), code(1, i, op), 101)
			refused(t, "no value for zone 0", plain(0), row(5, 70), code("B0 00 13", 1, i, op), 101)
		}
	}
}

// references: rp0, rp1 and rp2 behind a program that works along x. Y tells points from each other: each is a thousand and its number up from where it was.
func references(t *testing.T, f api.HintFont, z api.Zone, c []byte) [3]int {
	t.Helper()
	z = deep(z)
	last := len(z.Org) - 1
	for p := range z.Cur {
		z.Cur[p].Y = 1000 + p
	}
	var out [3]int
	for i, op := range []string{"3C", "33", "32"} {
		got, e := hint.Run(f, z, code(c, "00 B0 01 16", last, op))
		if e != 0 {
			t.Fatalf("%x: %v", c, e)
		}
		out[i] = got.Cur[last].Y - 1000
		if i > 0 {
			out[i] -= 1000 + last
		}
	}
	return out
}

// refers: the program leaves rp0, rp1 and rp2 so.
func refers(t *testing.T, name string, f api.HintFont, z api.Zone, c []byte, right ...int) {
	t.Helper()
	if got := references(t, f, z, c); !slices.Equal(got[:], right) {
		t.Errorf("%s: %x: %v, not %v", name, c, got, right)
	}
}

// inZone0: what the point p of zone 0 was and is, behind a program.
func inZone0(t *testing.T, name string, f api.HintFont, z api.Zone, c []byte, p, was, is int) {
	t.Helper()
	for i, right := range []int{was, is} {
		ask := code(c, "B0 00 15", p, []string{"47", "46"}[i], "B0 01 15 B0 00 23 48")
		got, e := hint.Run(f, z, ask)
		if e != 0 || got.Cur[0].X != right {
			t.Errorf("%s: %x: %v, %v, not %v", name, ask, got.Cur, e, right)
		}
		got, e = hint.Run(f, turned(z), code("00", ask))
		if e != 0 || got.Cur[0].Y != right {
			t.Errorf("%s along y: %x: %v, %v, not %v", name, ask, got.Cur, e, right)
		}
	}
}

// P10.3, 10 to 12: rp0, rp1, rp2.
func TestReferences(t *testing.T) {
	z := row(5, 70, 40, 10)
	refers(t, "begin", plain(), z, nil, 0, 0, 0)
	refers(t, "rp0", plain(), z, code("B0 02 10"), 2, 0, 0)
	refers(t, "rp1", plain(), z, code("B0 02 11"), 0, 2, 0)
	refers(t, "rp2", plain(), z, code("B0 02 12"), 0, 0, 2)
	refers(t, "all", plain(), z, code("B0 03 10 B0 01 11 B0 02 12"), 3, 1, 2)
	refers(t, "again", plain(), z, code("B0 03 10 B0 01 10"), 1, 0, 0)
	// Numbers of points are asked where they are used.
	for _, n := range []int{-1, 4, 16, 32767, -32768} {
		for _, op := range []string{"10", "11", "12"} {
			hinted(t, "any number", plain(), z, code(n, op), z)
		}
	}
}

// P10.3, 13 to 16: zp0, zp1, zp2.
func TestPointers(t *testing.T) {
	z := row(5, 70, 40)
	put := code("B0 00 15 B0 00", 33, "48 B0 00 13 B0 00", 44, "48")
	hinted(t, "zone 0 is put, not the glyph's", plain(), z, put, z)
	// Each pointer alone: 2E touches of zp0, 3C of zp1, 48 of zp2.
	ops := code("B0 01 2E B0 02 3C B0 00", 33, "48")
	hinted(t, "zone 1", plain(), z, ops, touched(moved(z, 33, 70, 70), 0, 1, 2))
	hinted(t, "zp0", plain(), z, code("B0 00 13", ops), touched(moved(z, 33, 70, 0), 0, 2))
	hinted(t, "zp1", plain(), z, code("B0 00 14", ops), touched(moved(z, 33, 70), 0, 1))
	hinted(t, "zp2", plain(), z, code("B0 00 15", ops), touched(moved(z, 5, 70, 70), 1, 2))
	hinted(t, "all", plain(), z, code("B0 00 16", ops), z)
	hinted(t, "all, back", plain(), z, code("B0 00 16 B0 01 16", ops), touched(moved(z, 33, 70, 70), 0, 1, 2))
	for _, op := range []string{"13", "14", "15"} {
		hinted(t, "one back", plain(), z, code("B0 00", op, "B0 01", op, ops), touched(moved(z, 33, 70, 70), 0, 1, 2))
	}
	for _, n := range []int{-1, 2, 3, 256, 32767, -32768} {
		for _, op := range []string{"13", "14", "15", "16"} {
			refused(t, "no zone", plain(), z, code(n, op), 101)
		}
	}
}

// P10.3, 00 and 01: the axis; of the other one nothing is changed.
func TestAxis(t *testing.T) {
	z := row(5, 70)
	z.Org[0].Y, z.Cur[0].Y, z.Cur[1].Y = 20, 21, -100
	x, e := hint.Run(plain(), z, code("00 01 B0 00 2F"))
	right := deep(z)
	right.Cur[0].X, right.TouchX[0] = 0, true
	judged(t, "x", x, e, right, 0)
	y, e := hint.Run(plain(), z, code("00 B0 01 2F"))
	right = deep(z)
	right.Cur[1].Y, right.TouchY[1] = -128, true
	judged(t, "y", y, e, right, 0)
	both, e := hint.Run(plain(), z, code("B0 01 2F 00 B0 01 2F"))
	right = deep(z)
	right.Cur[1], right.TouchX[1], right.TouchY[1] = at(64, -128), true, true
	judged(t, "both", both, e, right, 0)
}

// P10.4, 2E and 2F.
func TestTouch(t *testing.T) {
	z := moved(row(5, 70, 40), 6, 100, -33)
	hinted(t, "where it is", plain(), z, code("B0 01 2E"), touched(z, 1))
	hinted(t, "rounded", plain(), z, code("B0 01 2F"), touched(moved(z, 6, 128), 1))
	hinted(t, "rounded below 0", plain(), z, code("B0 02 2F"), touched(moved(z, 6, 100, -64), 2))
	for i, to := range []int{128, 96, 96, 64, 128, 100} {
		hinted(t, "in each way", plain(), z, code(ways()[i], "B0 01 2F"), touched(moved(z, 6, to), 1))
		hinted(t, "in no way", plain(), z, code(ways()[i], "B0 01 2E"), touched(z, 1))
	}
	refers(t, "2E", plain(), z, code("B1 02 01 12 2E"), 2, 2, 1)
	refers(t, "2F", plain(), z, code("B1 02 01 12 2F"), 2, 2, 1)
	far := moved(z, maxFix, maxFix-32, -maxFix)
	hinted(t, "the ends of FIX", plain(), far, code("B2 00 01 02 2E 2E 2E"), touched(far, 0, 1, 2))
	hinted(t, "the last that is a FIX", plain(), far, code("B0 01 2F"), touched(moved(far, maxFix, maxFix-63), 1))
	refused(t, "no FIX", plain(), far, code("B0 00 2F"), 104)
	refused(t, "no FIX below 0", plain(), far, code("B0 02 2F"), 104)
	inZone0(t, "zone 0", plain(100), z, code(twilightAt(3, 0), "B0 00 13 B0 03 2F"), 3, 100, 128)
	inZone0(t, "zone 0", plain(100), z, code(twilightAt(3, 0), "B0 00 13 B0 03 2E"), 3, 100, 100)
}

// P10.4, 3E and 3F in zone 1.
func TestToValue(t *testing.T) {
	z := row(5, 70, 40)
	f := plain(100, -100)
	hinted(t, "at the value", f, z, code("B1 01 00 3E"), touched(moved(z, 5, 100), 1))
	hinted(t, "below 0", f, z, code("B1 00 01 3E"), touched(moved(z, -100), 0))
	hinted(t, "rounded", f, z, code("B1 01 00 3F"), touched(moved(z, 5, 128), 1))
	hinted(t, "rounded, too far from the value", f, z, code("B1 00 00 3F"), touched(moved(z, 0), 0))
	hinted(t, "not asked how far", f, z, code("B1 00 00 3E"), touched(moved(z, 100), 0))
	hinted(t, "in its way", f, z, code("7C B1 00 01 3F"), touched(moved(z, 64), 0))
	hinted(t, "3E in no way", f, z, code("7C B1 01 00 3E"), touched(moved(z, 5, 100), 1))
	refers(t, "3E", f, z, code("B0 02 12 B1 01 00 3E"), 1, 1, 2)
	refers(t, "3F", f, z, code("B0 02 12 B1 01 00 3F"), 1, 1, 2)
	// CUT is 68: as far as that the value counts.
	for _, c := range [][2]int{{32, 100}, {31, 31}, {168, 100}, {169, 169}, {100, 100}} {
		hinted(t, "at CUT", f, moved(z, 5, c[0]), code("7A B1 01 00 3F"), touched(moved(z, 5, c[1]), 1))
		hinted(t, "at CUT, where it was doesn't count", f, moved(row(9, 900, 40), 9, c[0]), code("7A B1 01 00 3F"), touched(moved(row(9, 900, 40), 9, c[1]), 1))
	}
	for _, c := range [][3]int{{0, 100, 100}, {0, 99, 99}, {0, 101, 101}, {1, 99, 100}, {1, 98, 98}, {1, 101, 100}, {1, 102, 102}, {-1, 100, 100}, {-1, 99, 99}, {-5, 100, 100}, {32767, -31000, 100}} {
		hinted(t, "CUT", f, moved(z, 5, c[1]), code("7A", c[0], "1D B1 01 00 3F"), touched(moved(z, 5, c[2]), 1))
	}
	// What is reckoned must be a FIX: how far it is, and its rounding.
	g := plain(maxFix, -maxFix, maxFix-40)
	hinted(t, "the ends of FIX", g, z, code("B1 01 00 3E B1 00 01 3E"), touched(moved(z, -maxFix, maxFix), 0, 1))
	refused(t, "the way is no FIX", g, moved(z, -1), code("7A B1 00 00 3F"), 104)
	refused(t, "the way is no FIX", g, moved(z, 1), code("7A B1 00 01 3F"), 104)
	hinted(t, "the way is a FIX", g, moved(z, 0), code("7A B1 00 00 3F"), touched(moved(z, 0), 0))
	refused(t, "the rounding is no FIX", g, moved(z, maxFix), code("B1 00 00 3F"), 104)
	hinted(t, "the rounding is a FIX", g, moved(z, maxFix), code("B1 00 02 3F"), touched(moved(z, maxFix-63), 0))
}

// P10.4, 3E and 3F in zone 0: the point was and is at the value first.
func TestToValueInZone0(t *testing.T) {
	z := row(5, 70, 40)
	f := plain(100, -1000, maxFix)
	inZone0(t, "3E", f, z, code("B0 00 13 B1 07 00 3E"), 7, 100, 100)
	inZone0(t, "3F", f, z, code("B0 00 13 B1 07 00 3F"), 7, 100, 128)
	inZone0(t, "3F far from where it was", f, z, code("B0 00 13 B1 07 01 3F"), 7, -1000, -1024)
	inZone0(t, "3F with a CUT below 0", f, z, code(-9, "1D B0 00 13 B1 07 01 3F"), 7, -1000, -1024)
	inZone0(t, "3F as far as FIX goes", f, z, code("7A B0 00 13 B1 07 02 3F"), 7, maxFix, maxFix)
	refused(t, "3F rounded", f, z, code("B0 00 13 B1 07 02 3F"), 104)
	inZone0(t, "again", f, z, code("B0 00 13 B1 07 00 3E B1 07 01 3F"), 7, -1000, -1024)
	inZone0(t, "another", f, z, code("B0 00 13 B1 07 00 3E B1 08 01 3E"), 7, 100, 100)
	leaves(t, "along one axis", f, code("00 B0 00 16 B1 07 00 3E B0 07 47 01 B0 07 47 B0 07 46"), 100, 0, 0)
	refers(t, "rp0, rp1", f, z, code("B0 00 13 B1 02 00 3E"), 2, 2, 0)
	hinted(t, "the glyph's is left", f, z, code("B0 00 13 B1 02 00 3F"), z)
	// It depends on zp0 alone; zone 1's points keep where they were.
	hinted(t, "zp1 and zp2 don't count", f, z, code("B0 00 14 B0 00 15 B1 02 00 3E"), touched(moved(z, 5, 70, 100), 2))
}

// P10.4, C0 to DF: each of the 32 forms at distances of all kinds.
func TestKeepDistance(t *testing.T) {
	for _, c := range [][5]int{
		// where it was; how far it is put: as it was, rounded, at least MINIMUM, both
		{40, 40, 64, 64, 64}, {20, 20, 0, 64, 64}, {100, 100, 128, 100, 128}, {0, 0, 0, 64, 64}, {63, 63, 64, 64, 64}, {64, 64, 64, 64, 64}, {65, 65, 64, 65, 64}, {31, 31, 0, 64, 64},
		{-1, -1, 0, -64, -64}, {-31, -31, 0, -64, -64}, {-40, -40, -64, -64, -64}, {-100, -100, -128, -100, -128}, {-63, -63, -64, -64, -64}, {-64, -64, -64, -64, -64}, {-65, -65, -64, -65, -64},
	} {
		for bits := range 32 {
			z := moved(row(7, 500, 500+c[0], 9), 7, 530, 999)
			d := c[1+bits/4%4]
			ops := code("B0 01 10 B0 02", byte(0xC0+bits))
			hinted(t, "C0", plain(), z, ops, touched(moved(z, 7, 530, 530+d), 2))
			refers(t, "C0", plain(), z, ops, 1+bits/16, 1, 2)
		}
	}
	z := moved(row(500, 540), 500, 999)
	for i, d := range []int{64, 32, 32, 0, 64, 40} {
		hinted(t, "in its way", plain(), z, code(ways()[i], "B0 01 C4"), touched(moved(z, 500, 500+d), 1))
		hinted(t, "in no way", plain(), z, code(ways()[i], "B0 01 C3"), touched(moved(z, 500, 540), 1))
	}
	refers(t, "rp1 is what rp0 was", plain(), row(1, 2, 3, 4), code("B0 03 10 B0 01 D0 B0 02 C0"), 1, 1, 2)
	hinted(t, "itself", plain(), moved(z, 510), code("B0 00 C8"), touched(moved(z, 574, 999), 0))
}

// P10.4: MINIMUM is a bound on the side on which the original distance lies, just where it's asked for.
func TestMinimum(t *testing.T) {
	for _, c := range [][3]int{
		{20, 20, 20}, {20, 19, 20}, {20, 21, 21}, {20, 0, 20}, {20, -1, -20}, {20, -19, -20}, {20, -20, -20}, {20, -21, -21}, {0, 0, 0}, {0, 5, 5}, {0, -5, -5},
		{-30, 20, 20}, {-30, 0, 0}, {-30, -20, -20}, {-30, -1, -1}, {300, 5, 300}, {300, -5, -300},
	} {
		z := moved(row(0, c[1]), 10, 77)
		hinted(t, "asked for", plain(), z, code(c[0], "1A B0 01 C8"), touched(moved(z, 10, 10+c[2]), 1))
		hinted(t, "not asked for", plain(), z, code(c[0], "1A B0 01 C3"), touched(moved(z, 10, 10+c[1]), 1))
		f := plain(c[1])
		hinted(t, "of a value", f, z, code(c[0], "1A B1 01 00 E8"), touched(moved(z, 10, 10+c[2]), 1))
	}
	// Below 0 and rounded to it: the side is that of the original distance.
	z := moved(row(0, -20, 20), 10, 77, 78)
	hinted(t, "below 0", plain(), z, code(-30, "1A B0 01 CC B0 02 CC"), touched(moved(z, 10, 10, 10), 1, 2))
	hinted(t, "below 0", plain(), z, code(5, "1A B0 01 CC B0 02 CC"), touched(moved(z, 10, 5, 15), 1, 2))
	for _, far := range []int{maxFix, -maxFix} {
		g := plain(far)
		y := moved(row(0, -20, 20), 0, 77, 78)
		low, high := min(-20, -far), max(20, far)
		hinted(t, "the ends of FIX", g, y, code("B0 00 45 1A B0 01 C8 B0 02 C8"), touched(moved(y, 0, low, high), 1, 2))
	}
}

// P10.4, C0 to DF: what is no FIX.
func TestKeepDistanceFar(t *testing.T) {
	just := moved(row(-1, maxFix-1), 0, 5)
	hinted(t, "a distance at the end", plain(), just, code("B0 01 C0"), touched(moved(just, 0, maxFix), 1))
	refused(t, "a distance beyond", plain(), moved(row(-2, maxFix-1), 0, 5), code("B0 01 C0"), 104)
	refused(t, "a distance beyond", plain(), moved(row(2, -maxFix+1), 0, 5), code("B0 01 C0"), 104)
	refused(t, "rounded", plain(), just, code("B0 01 C4"), 104)
	refused(t, "put", plain(), moved(row(0, 5), maxFix-4, 5), code("B0 01 C0"), 104)
	hinted(t, "put", plain(), moved(row(0, 5), maxFix-5, 5), code("B0 01 C0"), touched(moved(row(0, 5), maxFix-5, maxFix), 1))
	refused(t, "put with MINIMUM", plain(), moved(row(0, 5), maxFix-63, 5), code("B0 01 C8"), 104)
	hinted(t, "put with MINIMUM", plain(), moved(row(0, 5), maxFix-64, 5), code("B0 01 C8"), touched(moved(row(0, 5), maxFix-64, maxFix), 1))
	// A point that isn't there comes ahead of what is no FIX.
	refused(t, "both", plain(), moved(row(-2, maxFix), 0, 5), code("B0 02 C4"), 101)
	refused(t, "both", plain(), moved(row(-2, maxFix), 0, 5), code("B0 02 10 B0 01 C4"), 101)
}

// P10.4, C0 to DF: p is of zp1, rp0 of zp0; zone 0's point isn't made.
func TestKeepDistanceZones(t *testing.T) {
	z := moved(row(500, 540, 7), 530, 999)
	f := plain(100)
	hinted(t, "from zone 0", f, z, code(twilightAt(3, 0), "B0 00 13 B0 03 10 B0 01 C0"), touched(moved(z, 530, 540), 1))
	hinted(t, "from zone 0, moved there", f, z, code(twilightAt(3, 0), "B0 00 15 B0 03", 110, "48 B0 00 13 B0 03 10 B0 01 C0"), touched(moved(z, 530, 550), 1))
	inZone0(t, "to zone 0", f, z, code(twilightAt(3, 0), "B0 00 14 B0 00 10 B0 03 C0"), 3, 100, 130)
	hinted(t, "to zone 0", f, z, code(twilightAt(3, 0), "B0 00 14 B0 00 10 B0 03 C0"), z)
	inZone0(t, "within zone 0", f, z, code(twilightAt(3, 0), "B0 00 16 B0 05 10 B0 03 C0"), 3, 100, 100)
}

// P10.4, E0 to FF: each of the 32 forms at values and distances of all kinds.
func TestValueDistance(t *testing.T) {
	for _, c := range [][6]int{
		// the value; where it was; how far it is put: as the value says, rounded, at least MINIMUM, both
		{100, 90, 100, 128, 100, 128}, {100, 168, 100, 128, 100, 128}, {100, 169, 100, 192, 100, 192}, {100, 32, 100, 128, 100, 128}, {100, 31, 100, 0, 100, 64}, {100, 0, 100, 0, 100, 64}, {68, 0, 68, 64, 68, 64}, {69, 0, 69, 0, 69, 64},
		{100, -90, -100, -128, -100, -128}, {100, -168, -100, -128, -100, -128}, {100, -169, -100, -192, -100, -192}, {100, -31, -100, 0, -100, -64},
		{-100, 90, 100, 128, 100, 128}, {-100, -90, -100, -128, -100, -128}, {-100, 169, 100, 192, 100, 192}, {-100, 31, 100, 0, 100, 64}, {-100, -31, -100, 0, -100, -64}, {-100, 0, 100, 0, 100, 64},
		{0, -20, 0, 0, -64, -64}, {0, 20, 0, 0, 64, 64}, {0, 0, 0, 0, 64, 64}, {-5, 0, 5, 0, 64, 64}, {5, 0, 5, 0, 64, 64}, {5, -1, -5, 0, -64, -64}, {-5, -1, -5, 0, -64, -64}, {0, -1, 0, 0, -64, -64},
		{20, 10, 20, 0, 64, 64}, {-20, -10, -20, 0, -64, -64}, {64, 64, 64, 64, 64, 64}, {63, 64, 63, 64, 64, 64}, {65, 64, 65, 64, 65, 64}, {0, 100, 0, 128, 64, 128}, {0, -100, 0, -128, -64, -128},
	} {
		for bits := range 32 {
			z := moved(row(7, 500, 500+c[1], 9), 7, 530, 999)
			d := c[2+bits/4%4]
			ops := code("B0 01 10 B1 02 01", byte(0xE0+bits))
			hinted(t, "E0", plain(7777, c[0]), z, ops, touched(moved(z, 7, 530, 530+d), 2))
			refers(t, "E0", plain(7777, c[0]), z, ops, 1+bits/16, 1, 2)
		}
	}
	z := moved(row(500, 540), 500, 999)
	for i, d := range []int{64, 32, 64, 0, 64, 50} {
		hinted(t, "in its way", plain(50), z, code(ways()[i], "B1 01 00 E4"), touched(moved(z, 500, 500+d), 1))
		hinted(t, "in no way", plain(50), z, code(ways()[i], "B1 01 00 E3"), touched(moved(z, 500, 550), 1))
	}
	refers(t, "rp1 is what rp0 was", plain(0), row(1, 2, 3, 4), code("B0 03 10 B1 01 00 F0 B1 02 00 E0"), 1, 1, 2)
}

// P10.4, E0 to FF: how far the value may be from the original distance.
func TestValueCut(t *testing.T) {
	for _, c := range [][4]int{
		// CUT, the value, where it was, how far it is put
		{0, 100, 100, 100}, {0, 101, 100, 100}, {0, 99, 100, 100}, {5, 105, 100, 105}, {5, 106, 100, 100}, {5, 95, 100, 95}, {5, 94, 100, 100}, {-1, 100, 100, 100}, {-7, 105, 100, 100},
		{5, -105, -100, -105}, {5, -106, -100, -100}, {5, -95, -100, -95}, {5, -94, -100, -100}, {5, 105, -100, -105}, {5, -106, 100, 100},
	} {
		z := row(0, c[2])
		hinted(t, "CUT", plain(c[1]), z, code("7A", c[0], "1D B1 01 00 E4"), touched(moved(z, 0, c[3]), 1))
		d := c[1]
		if (d < 0) != (c[2] < 0) {
			d = -d
		}
		hinted(t, "CUT isn't asked", plain(c[1]), z, code("7A", c[0], "1D B1 01 00 E3"), touched(moved(z, 0, d), 1))
	}
}

// P10.4, E0 to FF: what is no FIX.
func TestValueDistanceFar(t *testing.T) {
	f := plain(maxFix, -maxFix, 5)
	hinted(t, "the ends", f, row(0, 5, -5), code("B1 01 00 E0 B1 02 01 E0"), touched(moved(row(0, 5, -5), 0, maxFix, -maxFix), 1, 2))
	hinted(t, "the other side", f, row(0, 5, -5), code("B1 01 01 E0 B1 02 00 E0"), touched(moved(row(0, 5, -5), 0, maxFix, -maxFix), 1, 2))
	refused(t, "where it was", f, row(-2, maxFix-1), code("B1 01 02 E0"), 104)
	refused(t, "where it was", f, row(2, -maxFix+1), code("B1 01 02 E0"), 104)
	refused(t, "rounded", f, row(0, maxFix), code("B1 01 00 E4"), 104)
	refused(t, "put", f, moved(row(0, 5), 1, 5), code("B1 01 00 E0"), 104)
	refused(t, "put below 0", f, moved(row(0, -5), -1, 5), code("B1 01 00 E0"), 104)
	refused(t, "put with MINIMUM", f, moved(row(0, 5), maxFix-63, 5), code("B1 01 02 E8"), 104)
	// The value and the distance lie on one side: how far they are from each other is a FIX always.
	hinted(t, "far from each other", f, row(0, 5), code("7A B1 01 00 E4"), touched(row(0, 5), 1))
	refused(t, "both", f, row(-2, maxFix-1), code("B1 02 02 E0"), 101)
	refused(t, "both", f, row(-2, maxFix-1), code("B1 01 03 E0"), 101)
	refused(t, "both", f, row(-2, maxFix-1), code("B0 02 10 B1 01 02 E0"), 101)
}

// P10.4, E0 to FF in zone 0: p was first the value from where rp0 was, and is there.
func TestValueDistanceInZone0(t *testing.T) {
	z := moved(row(500, 540, 7), 530, 999)
	f := plain(100, -100, 7, maxFix)
	inZone0(t, "E0", f, z, code("B0 00 14 B1 03 00 E0"), 3, 600, 630)
	inZone0(t, "E4", f, z, code("B0 00 14 B1 03 00 E4"), 3, 600, 658)
	inZone0(t, "below 0", f, z, code("B0 00 14 B1 03 01 E4"), 3, 400, 402)
	inZone0(t, "E8", f, z, code("B0 00 14 B1 03 02 E8"), 3, 507, 594)
	inZone0(t, "again", f, z, code("B0 00 14 B1 03 00 E0 B1 03 01 E0"), 3, 400, 430)
	inZone0(t, "from zone 0", f, z, code(twilightAt(4, 2), "B0 00 13 B0 00 14 B0 04 10 B1 03 00 E0"), 3, 107, 107)
	inZone0(t, "from zone 0, moved there", f, z, code(twilightAt(4, 2), "B0 00 15 B0 04", 10, "48 B0 00 13 B0 00 14 B0 04 10 B1 03 00 E0"), 3, 107, 110)
	inZone0(t, "of itself", f, z, code(twilightAt(4, 2), "B0 00 13 B0 00 14 B0 04 10 B1 04 00 E0"), 4, 107, 207)
	inZone0(t, "of itself, rounded", f, z, code(twilightAt(4, 2), "B0 00 13 B0 00 14 B0 04 10 B1 04 00 E4"), 4, 107, 107)
	hinted(t, "the glyph's is left", f, z, code("B0 00 14 B1 01 00 E0"), z)
	hinted(t, "it depends on zp1", f, z, code("B0 00 13 B0 00 15 B1 01 00 E0"), touched(moved(z, 530, 100), 1))
	refers(t, "references", f, z, code("B0 00 14 B1 01 00 F0"), 1, 0, 1)
	refused(t, "where it is made", f, z, code("B0 00 14 B1 03 03 E0"), 104)
	refused(t, "where it is made", plain(-maxFix), row(-1, 5), code("B0 00 14 B1 03 00 E0"), 104)
	hinted(t, "zone 1 isn't made", f, moved(row(500, 540), -5, 0), code("B1 01 03 E0"), touched(moved(row(500, 540), -5, maxFix-5), 1))
}

// P10.4, 3A and 3B.
func TestApart(t *testing.T) {
	z := moved(row(500, 540, 7, 8), 530, 999, 70)
	for op, first := range map[string]int{"3A": 2, "3B": 1} {
		hinted(t, op, plain(), z, code("B0 02 10 B1 01 09", op), touched(moved(z, 530, 79), 1))
		hinted(t, op+" below 0", plain(), z, code("B0 02 10 B0 01", -90, op), touched(moved(z, 530, -20), 1))
		hinted(t, op+" by 0", plain(), z, code("B0 02 10 B1 01 00", op), touched(moved(z, 530, 70), 1))
		refers(t, op, plain(), z, code("B0 02 10 B1 01 09", op), first, 2, 1)
		refused(t, op, plain(maxFix), moved(row(0, 5), 1), code("B0 01 B0 00 45", op), 104)
		refused(t, op, plain(-maxFix), moved(row(0, 5), -1), code("B0 01 B0 00 45", op), 104)
		hinted(t, op+" as far as FIX goes", plain(maxFix), moved(row(0, 5), 0), code("B0 01 B0 00 45", op), touched(moved(row(0, 5), 0, maxFix), 1))
		refused(t, op+" both", plain(maxFix), moved(row(0, 5), 1), code("B0 02 B0 00 45", op), 101)
		inZone0(t, op+" to zone 0", plain(100), z, code(twilightAt(3, 0), "B0 00 14 B0 00 10 B1 03 09", op), 3, 100, 539)
		hinted(t, op+" from zone 0", plain(100), z, code(twilightAt(3, 0), "B0 00 13 B0 03 10 B1 01 09", op), touched(moved(z, 530, 109), 1))
	}
}

// P10.4, 46 to 48.
func TestWhere(t *testing.T) {
	z := moved(row(500, -540, 7), 530, 999)
	show := code("B0 02 23 48")
	hinted(t, "is", plain(), z, code("B0 00 46", show), touched(moved(z, 530, 999, 530), 2))
	hinted(t, "was", plain(), z, code("B0 01 47", show), touched(moved(z, 530, 999, -540), 2))
	hinted(t, "asked twice", plain(), z, code("B0 01 46 B0 01 47 60", show), touched(moved(z, 530, 999, 459), 2))
	hinted(t, "put", plain(), z, code("B0 00", -33, "48"), touched(moved(z, -33), 0))
	hinted(t, "put where it is", plain(), z, code("B0 00", 530, "48"), touched(z, 0))
	refers(t, "nothing is referred to", plain(), z, code("B0 01", 5, "48 B0 01 46 B0 01 47"), 0, 0, 0)
	inZone0(t, "put in zone 0", plain(), z, code("B0 00 15 B0 09", -33, "48"), 9, 0, -33)
	hinted(t, "put in zone 0", plain(), z, code("B0 00 15 B0 02", -33, "48"), z)
	for _, far := range []int{maxFix, -maxFix} {
		hinted(t, "the ends of FIX", plain(far), z, code("B1 00 00 45 48"), touched(moved(z, far), 0))
	}
	hinted(t, "nothing is touched by asking", plain(), z, code("B0 00 46 B0 01 47 B1 00 01 49 B1 00 01 4A"), z)
}

// P10.4, 49 and 4A.
func TestDistances(t *testing.T) {
	z := moved(row(500, -540, 7), 530, 999)
	show := code("B0 02 23 48")
	hinted(t, "is", plain(), z, code("B1 00 01 49", show), touched(moved(z, 530, 999, 530-999), 2))
	hinted(t, "is, the other way", plain(), z, code("B1 01 00 49", show), touched(moved(z, 530, 999, 999-530), 2))
	hinted(t, "was", plain(), z, code("B1 00 01 4A", show), touched(moved(z, 530, 999, 1040), 2))
	hinted(t, "was, the other way", plain(), z, code("B1 01 00 4A", show), touched(moved(z, 530, 999, -1040), 2))
	hinted(t, "to itself", plain(), z, code("B1 01 01 49", show), touched(moved(z, 530, 999, 0), 2))
	f := plain(100)
	moveIt := code(twilightAt(3, 0), "B0 00 15 B0 03", 110, "48 B0 01 15")
	hinted(t, "from zone 0", f, z, code(moveIt, "B0 00 13 B1 03 00 49", show), touched(moved(z, 530, 999, 110-530), 2))
	hinted(t, "to zone 0", f, z, code(moveIt, "B0 00 14 B1 00 03 49", show), touched(moved(z, 530, 999, 530-110), 2))
	hinted(t, "from zone 0, was", f, z, code(moveIt, "B0 00 13 B1 03 00 4A", show), touched(moved(z, 530, 999, 100-500), 2))
	hinted(t, "to zone 0, was", f, z, code(moveIt, "B0 00 14 B1 00 03 4A", show), touched(moved(z, 530, 999, 500-100), 2))
	far := moved(row(-1, maxFix, 0), 2, -maxFix)
	refused(t, "is", plain(), far, code("B1 00 01 49"), 104)
	refused(t, "is", plain(), far, code("B1 01 00 49"), 104)
	refused(t, "was", plain(), far, code("B1 00 01 4A"), 104)
	refused(t, "was", plain(), far, code("B1 01 00 4A"), 104)
	just := moved(row(0, maxFix, 0), 0, -maxFix)
	hinted(t, "is", plain(), just, code("B1 00 01 49", show), touched(moved(just, 0, -maxFix, maxFix), 2))
	hinted(t, "was", plain(), just, code("B1 00 01 4A", show), touched(moved(just, 0, -maxFix, -maxFix), 2))
}
