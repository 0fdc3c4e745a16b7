package hint_test

import (
	"testing"

	"serif/api"
	"serif/hint"
)

// loops: the instructions on loop points, each with what it needs on top of them.
func loops() []string { return []string{"32", "33", "B0 07 38", "3C", "39"} }

// P10.3, 17: loop.
func TestLoop(t *testing.T) {
	z := row(5, 70, 40, 10)
	for n, right := range map[int]api.Zone{
		1: touched(moved(z, 5, 70, 40, 5), 3),
		2: touched(moved(z, 5, 70, 5, 5), 2, 3),
		3: touched(moved(z, 5, 5, 5, 5), 1, 2, 3),
	} {
		hinted(t, "so many", plain(), z, code(n, "17 B2 01 02 03 3C"), right)
	}
	for n, want := range map[int]api.Errno{0: 101, -1: 101, -32768: 101, 1: 0, 1000: 0, 1001: 103, 32767: 103} {
		got, e := hint.Run(plain(), z, code(n, "17"))
		if e != want || e == 0 && !same(got, z) {
			t.Error(n, got, e)
		}
	}
	refused(t, "the ends of FIX", plain(maxFix), z, code("B0 00 45 17"), 103)
	refused(t, "the ends of FIX", plain(-maxFix), z, code("B0 00 45 17"), 101)
	hinted(t, "the last one counts", plain(), z, code("B0 03 17 B0 01 17 B2 01 02 03 3C"), touched(moved(z, 5, 70, 40, 5), 3))
	// As many points as the stack has room for.
	hinted(t, "256", plain(), row(5, 70), code("B8 01 00 17", times(256, "B0 01"), "3C"), touched(moved(row(5, 70), 5, 5), 1))
	refused(t, "257", plain(), row(5, 70), code("B8 01 01 17", times(256, "B0 01"), "3C"), 101)
	refused(t, "1000", plain(), row(5, 70), code("B8 03 E8 17", times(256, "B0 01"), "3C"), 101)
	hinted(t, "255 and how far", plain(), row(0, 1), code("B8 00 FF 17", times(255, "B0 01"), "B0 02 38"), touched(moved(row(0, 1), 0, 511), 1))
	refused(t, "256 and how far", plain(), row(0, 1), code("B8 01 00 17", times(255, "B0 01"), "B0 02 38"), 101)
	// A point may come more than once.
	hinted(t, "twice", plain(), z, code("B0 03 17 B3 01 02 01 07 38"), touched(moved(z, 5, 84, 47), 1, 2))
}

// P10.4: loop is 1 behind each instruction on loop points, and not behind others.
func TestLoopIsOneBehind(t *testing.T) {
	z := row(5, 70, 40, 10)
	for _, ops := range loops() {
		c := code("B0 02 17 B1 02 03", ops, "22 B4 09 09 09 09 00", ops, "24")
		got, e := stackBehind(plain(), c)
		if e != 0 || len(got) != 5 || got[4] != 4 {
			t.Error(ops, got, e)
		}
	}
	hinted(t, "not behind others", plain(), z, code("B0 02 17 B0 00 2E B0 00 C0 B0 01 46 21 B2 00 00 05 48 18 B0 00 12 B1 02 03 3C"), touched(moved(z, 5, 70, 5, 5), 0, 2, 3))
	hinted(t, "behind one", plain(), z, code("B0 03 17 B2 01 01 01 3C B1 02 03 3C"), touched(moved(z, 5, 5, 40, 5), 1, 3))
}

// P10.4, 32 and 33: points are put further by the move of rp2 or rp1.
func TestFollow(t *testing.T) {
	z := moved(row(500, 540, 7, 9), 530, 520, 100, 9)
	for op, set := range map[string]string{"32": "12", "33": "11"} {
		hinted(t, op, plain(), z, code("B0 00", set, "B0 02", op), touched(moved(z, 530, 520, 130), 2))
		hinted(t, op+" back", plain(), z, code("B0 01", set, "B0 02", op), touched(moved(z, 530, 520, 80), 2))
		hinted(t, op+" by nothing", plain(), z, code("B0 03", set, "B0 02", op), touched(z, 2))
		hinted(t, op+" two", plain(), z, code("B0 02 17 B0 00", set, "B1 02 03", op), touched(moved(z, 530, 520, 130, 39), 2, 3))
		hinted(t, op+" itself, reckoned first", plain(), z, code("B0 03 17 B0 00", set, "B2 02 00 00", op), touched(moved(z, 590, 520, 130), 0, 2))
		hinted(t, op+" itself ahead of another", plain(), z, code("B0 02 17 B0 00", set, "B1 02 00", op), touched(moved(z, 560, 520, 130), 0, 2))
		refers(t, op, plain(), z, code("B0 01 10 B0 02 11 B0 03 12 B0 00", op), 1, 2, 3)
		refused(t, op+" as far", plain(), moved(row(-1, 5), maxFix, 5), code("B0 01", op), 104)
		refused(t, op+" as far below 0", plain(), moved(row(1, 5), -maxFix, 5), code("B0 01", op), 104)
		refused(t, op+" put", plain(), moved(row(0, 5), maxFix-4, 5), code("B0 01", op), 104)
		refused(t, op+" put below 0", plain(), moved(row(0, -5), -maxFix+4, -5), code("B0 01", op), 104)
		hinted(t, op+" put", plain(), moved(row(0, 5), maxFix-5, 5), code("B0 01", op), touched(moved(row(0, 5), maxFix-5, maxFix), 1))
	}
	f := plain(100)
	away := code(twilightAt(2, 0), "B0 00 15 B0 02", 111, "48 B0 01 15")
	hinted(t, "32, rp2 of zp1", f, z, code(away, "B0 02 12 B0 00 14 B0 03 32"), touched(moved(z, 530, 520, 100, 20), 3))
	hinted(t, "32, not of zp0", f, z, code(away, "B0 02 12 B0 00 13 B0 03 32"), touched(moved(z, 530, 520, 100, 102), 3))
	hinted(t, "33, rp1 of zp0", f, z, code(away, "B0 02 11 B0 00 13 B0 03 33"), touched(moved(z, 530, 520, 100, 20), 3))
	hinted(t, "33, not of zp1", f, z, code(away, "B0 02 11 B0 00 14 B0 03 33"), touched(moved(z, 530, 520, 100, 102), 3))
	hinted(t, "32 moves points of zp2", f, z, code("B0 00 15 B0 03 32"), z)
	inZone0(t, "32 moves points of zp2", f, z, code("B0 00 15 B0 03 32"), 3, 0, 30)
	inZone0(t, "33 moves points of zp2", f, z, code("B0 00 15 B0 03 33"), 3, 0, 30)
	hinted(t, "32 and 33 don't look at rp0", f, z, code("B0 01 10 B0 03 32 B0 03 33"), touched(moved(z, 530, 520, 100, 69), 3))
}

// P10.4, 38: points are put further by a number.
func TestFurther(t *testing.T) {
	z := moved(row(500, 540, 7, 9), 530, 520, 100)
	hinted(t, "38", plain(), z, code("B1 02 07 38"), touched(moved(z, 530, 520, 107), 2))
	hinted(t, "38 back", plain(), z, code("B0 02", -700, "38"), touched(moved(z, 530, 520, -600), 2))
	hinted(t, "38 by nothing", plain(), z, code("B1 02 00 38"), touched(z, 2))
	hinted(t, "38 three", plain(), z, code("B0 03 17 B4 01 03 00 02 07 38"), touched(moved(z, 537, 520, 107, 16), 0, 2, 3))
	refers(t, "38", plain(), z, code("B0 01 10 B0 02 11 B0 03 12 B1 00 05 38"), 1, 2, 3)
	for _, far := range []int{maxFix, -maxFix} {
		f := plain(far)
		hinted(t, "the ends of FIX", f, row(0), code("B1 00 00 45 38"), touched(moved(row(0), far), 0))
		refused(t, "beyond", f, row(far/maxFix), code("B1 00 00 45 38"), 104)
	}
	inZone0(t, "38 in zone 0", plain(), z, code("B0 00 15 B1 03 07 38"), 3, 0, 7)
	hinted(t, "38 in zone 0", plain(), z, code("B0 00 15 B1 03 07 38"), z)
	hinted(t, "38 asks zp2 alone", plain(), z, code("B0 00 13 B0 00 14 B1 03 07 38"), touched(moved(z, 530, 520, 100, 16), 3))
}

// P10.4, 3C: points are put where rp0 is.
func TestAlign(t *testing.T) {
	z := moved(row(500, 540, 7, 9), 530, 520, 100)
	hinted(t, "3C", plain(), z, code("B0 02 3C"), touched(moved(z, 530, 520, 530), 2))
	hinted(t, "3C to another", plain(), z, code("B0 01 10 B0 02 3C"), touched(moved(z, 530, 520, 520), 2))
	hinted(t, "3C two and itself", plain(), z, code("B0 03 17 B0 01 10 B2 00 01 02 3C"), touched(moved(z, 520, 520, 520), 0, 1, 2))
	refers(t, "3C", plain(), z, code("B0 01 10 B0 02 11 B0 03 12 B0 00 3C"), 1, 2, 3)
	f := plain(100)
	hinted(t, "3C from zone 0", f, z, code(twilightAt(2, 0), "B0 00 13 B0 02 10 B0 03 3C"), touched(moved(z, 530, 520, 100, 100), 3))
	inZone0(t, "3C of zp1", f, z, code("B0 00 14 B0 03 3C"), 3, 0, 530)
	hinted(t, "3C asks not zp2", f, z, code("B0 00 15 B0 03 3C"), touched(moved(z, 530, 520, 100, 530), 3))
	for _, far := range []int{maxFix, -maxFix} {
		hinted(t, "the ends of FIX", f, row(far, -far), code("B0 01 3C"), touched(moved(row(far, -far), far, far), 1))
	}
}

// P10.4, 39: points between two others.
func TestBetween(t *testing.T) {
	set := code("B0 00 11 B0 01 12")
	for _, c := range [][6]int{
		// where A, B and the point were; where A and B are, where the point goes
		{0, 100, 50, 0, 200, 100}, {0, 100, 25, 10, 210, 60}, {0, 100, 0, 10, 210, 10}, {0, 100, 100, 10, 210, 210}, {0, 100, 150, 10, 210, 310}, {0, 100, -50, 10, 210, -90},
		{100, 0, 25, 210, 10, 60}, {100, 0, 50, 0, 200, 100}, {0, 100, 50, 200, 0, 100}, {0, 100, 25, 200, 0, 150}, {0, 100, 50, 70, 70, 70},
		{0, 64, 1, 0, 32, 1}, {0, 64, 1, 0, 31, 0}, {0, 64, 1, 0, -32, -1}, {0, 64, -1, 0, 32, -1}, {0, 64, -1, 0, 31, 0}, {0, 64, 3, 0, 32, 2}, {0, -64, 1, 0, 32, -1}, {0, -64, 1, 0, -32, 1},
		// w of 0
		{50, 50, 60, 10, 200, 20}, {50, 50, 50, 10, 200, 10}, {50, 50, 20, 10, 200, -20}, {0, 0, 7, 5, 5, 12},
	} {
		z := moved(row(c[0], c[1], c[2], 3), c[3], c[4], 777)
		hinted(t, "39", plain(), z, code(set, "B0 02 39"), touched(moved(z, c[3], c[4], c[5]), 2))
	}
	z := moved(row(0, 100, 50, 25), 10, 210, 777, 888)
	hinted(t, "two", plain(), z, code(set, "B0 02 17 B1 02 03 39"), touched(moved(z, 10, 210, 110, 60), 2, 3))
	hinted(t, "A and B themselves", plain(), z, code(set, "B0 04 17 B3 03 00 01 02 39"), touched(moved(z, 10, 210, 110, 60), 0, 1, 2, 3))
	hinted(t, "A alone", plain(), moved(row(50, 50, 60), 10, 200, 5), code(set, "B0 02 17 B1 02 00 39"), touched(moved(row(50, 50, 60), 10, 200, 20), 0, 2))
	hinted(t, "B alone, w of 0", plain(), moved(row(50, 50, 60), 10, 200, 5), code(set, "B0 02 17 B1 02 01 39"), touched(moved(row(50, 50, 60), 10, 10, 20), 1, 2))
	refers(t, "39", plain(), z, code("B0 01 10 B0 02 11 B0 03 12 B0 00 39"), 1, 2, 3)
	f := plain(100, 10)
	away := code(twilightAt(2, 0), twilightAt(3, 1), "B0 00 15 B0 02", 300, "48 B0 03", 30, "48 B0 01 15")
	hinted(t, "A of zp0", f, row(0, 200, 150), code(away, "B0 00 13 B0 02 11 B0 01 12 B0 02 39"), touched(moved(row(0, 200, 150), 0, 200, 250), 2))
	hinted(t, "B of zp1", f, row(0, 200, 50), code(away, "B0 00 14 B0 00 11 B0 02 12 B0 02 39"), touched(moved(row(0, 200, 50), 0, 200, 150), 2))
	inZone0(t, "p of zp2", f, moved(row(0, 100, 5), 0, 300), code(away, "B0 00 15 B0 00 11 B0 01 12 B0 03 39"), 3, 10, 30)
	inZone0(t, "p of zp2", f, moved(row(0, 100, 5), 5, 305), code(away, "B0 00 15 B0 00 11 B0 01 12 B0 02 39"), 2, 100, 305)
}

// P10.4, 39: what is no FIX.
func TestBetweenFar(t *testing.T) {
	set := code("B0 00 11 B0 01 12")
	for name, c := range map[string]struct {
		z    api.Zone
		want api.Errno
	}{
		"w":                  {moved(row(-1, maxFix, 5), 0, 0, 0), 104},
		"w below 0":          {moved(row(1, -maxFix, 5), 0, 0, 0), 104},
		"n":                  {moved(row(0, 9, 5), -1, maxFix, 0), 104},
		"n below 0":          {moved(row(0, 9, 5), 1, -maxFix, 0), 104},
		"n, where w is 0":    {moved(row(0, 0, 5), -1, maxFix, 0), 104},
		"o":                  {moved(row(-1, 9, maxFix), 0, 0, 0), 104},
		"o, where w is 0":    {moved(row(-1, -1, maxFix), 0, 0, 0), 104},
		"put, where w is 0":  {moved(row(0, 0, 5), maxFix-4, maxFix, 0), 104},
		"the nearest":        {moved(row(0, 2, maxFix), 0, 3, 0), 104},
		"put":                {moved(row(0, 10, 5), maxFix-4, maxFix-4+10-6, 0), 0},
		"put beyond":         {moved(row(0, 1, 5), maxFix-4, maxFix-3, 0), 104},
		"put below":          {moved(row(0, 1, -5), -maxFix+4, -maxFix+5, 0), 104},
		"a great product":    {moved(row(0, maxFix, maxFix-1), 0, maxFix, 0), 0},
		"w and n at the end": {moved(row(0, maxFix, 7), 0, -maxFix, 0), 0},
	} {
		right, e := runModel(plain(), c.z, code(set, "B0 02 39"))
		if e != c.want {
			t.Fatal(name, e)
		}
		got, e := hint.Run(plain(), c.z, code(set, "B0 02 39"))
		judged(t, name, got, e, right, c.want)
	}
	hinted(t, "a great product", plain(), moved(row(0, maxFix, maxFix-1), 0, maxFix-2, 0), code(set, "B0 02 39"), touched(moved(row(0, maxFix, maxFix-1), 0, maxFix-2, maxFix-3), 2))
	hinted(t, "w and n at the end", plain(), moved(row(0, maxFix, 7), 0, -maxFix, 0), code(set, "B0 02 39"), touched(moved(row(0, maxFix, 7), 0, -maxFix, -7), 2))
}

// P10.4: loop points are done one after the other, the top one first; with one that is wrong all is given up.
func TestLaterLoopPoints(t *testing.T) {
	z := row(5, 70, 40)
	for _, ops := range loops() {
		for _, points := range [][]byte{code("B2 03 01 02"), code("B2 01 03 02"), code("B2 01 02 03"), code("BA FF FF 00 01 00 02"), code("BA 00 01 00 02 FF FF")} {
			refused(t, ops, plain(), z, code("B0 03 17", points, ops), 101)
		}
		if _, e := hint.Run(plain(), z, code("B0 03 17 B2 01 02 00", ops)); e != 0 {
			t.Error(ops, e)
		}
	}
	// Point 2 goes beyond FIX, point 9 isn't there: the first of them that is done is told.
	far := row(0, 5, maxFix-5)
	refused(t, "beyond FIX first", plain(), far, code("B0 02 17 B1 09 02 B0 07 38"), 104)
	refused(t, "not there first", plain(), far, code("B0 02 17 B1 02 09 B0 07 38"), 101)
	moves := moved(row(0, 5, maxFix-5), 7, 5, maxFix-5)
	for _, op := range []string{"32", "33"} {
		refused(t, op+" beyond FIX first", plain(), moves, code("B0 02 17 B1 09 02", op), 104)
		refused(t, op+" not there first", plain(), moves, code("B0 02 17 B1 02 09", op), 101)
		// The move is reckoned ahead of all points.
		tooFar := moved(row(-1, 5), maxFix)
		refused(t, op+" the move first", plain(), tooFar, code("B0 09", op), 104)
		refused(t, op+" whose move isn't there", plain(), tooFar, code("B0 05 11 B0 05 12 B0 00", op), 101)
	}
	between := code("B0 02 17 B0 00 11 B0 01 12")
	refused(t, "39 beyond FIX first", plain(), moved(row(-1, 9, maxFix), 0, 0, 0), code(between, "B1 09 02 39"), 104)
	refused(t, "39 not there first", plain(), moved(row(-1, 9, maxFix), 0, 0, 0), code(between, "B1 02 09 39"), 101)
	refused(t, "39 w first", plain(), moved(row(-1, maxFix, 5), 0, 0, 0), code(between, "B1 02 09 39"), 104)
	refused(t, "39 n first", plain(), moved(row(0, 9, 5), -1, maxFix, 0), code(between, "B1 02 09 39"), 104)
	// Later points are asked for and reckoned with what the earlier ones have done.
	hinted(t, "one twice", plain(), z, code("B0 02 17 B1 01 01 B0 07 38"), touched(moved(z, 5, 84), 1))
	refused(t, "one twice, beyond FIX the second time", plain(), row(maxFix-10), code("B0 02 17 B1 00 00 B0 07 38"), 104)
	// What the stack hasn't is told ahead of all work.
	refused(t, "too few", plain(), far, code("B0 03 17 B1 01 02 B0 07 38"), 101)
	refused(t, "too few", plain(), moved(row(-1, 5), maxFix), code("B0 03 17 B1 01 01 32"), 101)
}

// smoothed: the program, whose parts "31" smooth along x, answers the zone; so it does with its axes turned.
func smoothed(t *testing.T, name string, f api.HintFont, z api.Zone, right api.Zone, parts ...any) {
	t.Helper()
	c := code(parts...)
	if got, e := hint.Run(f, z, c); e != 0 || !same(got, right) {
		t.Errorf("%s: %x: %v, %v; not %v", name, c, got, e, right)
	}
	for i, part := range parts {
		if part == "31" {
			parts[i] = "30"
		}
	}
	c = code("00", code(parts...))
	if got, e := hint.Run(f, turned(z), c); e != 0 || !same(got, turned(right)) {
		t.Errorf("%s along y: %x: %v, %v; not %v", name, c, got, e, turned(right))
	}
}

// P10.4, 30 and 31: the points of zone 1 are smoothed.
func TestSmoothed(t *testing.T) {
	z, f := row(0, 10, 20, 30), plain(100, 200)
	smoothed(t, "between", f, z, touched(moved(z, 0, 20, 40, 60), 0, 3), "B1 00 00 48 B1 03 3C 48", "31")
	smoothed(t, "one", f, z, touched(moved(z, 5, 15, 25, 35), 1), "B1 01 0F 48", "31")
	smoothed(t, "none", f, moved(z, 7), moved(z, 7), "31")
	smoothed(t, "touched beforehand", f, touched(moved(z, 5, 15, 99, 99), 1), touched(moved(z, 5, 15, 25, 35), 1), "31")
	smoothed(t, "touched where it is", f, moved(z, 5, 15, 99, 99), touched(moved(z, 5, 15, 25, 35), 1), "B0 01 2E", "31")
	smoothed(t, "twice", f, z, touched(moved(z, 5, 15, 30, 40), 1, 2), "B1 01 0F 48", "31", "B1 02 1E 48", "31")
	smoothed(t, "then another", f, z, touched(moved(z, 5, 15, 30, 35), 1, 2), "B1 01 0F 48", "31", "B1 02 1E 48")
	smoothed(t, "the pointers don't count", f, z, touched(moved(z, 5, 15, 25, 35), 1), "B1 01 0F 48 B0 00 16", "31")
	smoothed(t, "nothing is referred to or taken", f, z, touched(moved(z, 5, 15, 25, 25), 1, 3), "B0 02 10 B1 01 0F 48 B0 03", "31", "3C")
	two := deep(z)
	two.Ends = []int{1, 3}
	smoothed(t, "by contours", f, two, touched(moved(two, 5, 15), 1), "B1 01 0F 48", "31")
	two.Ends = []int{1}
	smoothed(t, "in no contour", f, two, touched(moved(two, 0, 10, 15), 2), "B1 02 0F 48", "31")
	smoothed(t, "what zone 0 has touched is left", f, z, touched(moved(z, 200), 0), twilightAt(3, 0), twilightAt(4, 1), "B0 00 15 B1 03 09 48", "31", "B0 04 46 B0 01 15 B0 00 23 48")
	smoothed(t, "no points", f, api.Zone{}, api.Zone{}, twilightAt(3, 0), "31")
}

// P10.4, 30 and 31: each smooths along its own axis, whatever the axis is; touches along the other don't count.
func TestSmoothedAxis(t *testing.T) {
	z := row(0, 10, 20)
	for p := range 3 {
		z.Org[p].Y, z.Cur[p].Y = 100*p, 100*p
	}
	begin := code("01 B1 00 05 48 00 B0 01", 170, "48")
	put := deep(z)
	put.Cur[0].X, put.TouchX[0], put.Cur[1].Y, put.TouchY[1] = 5, true, 170, true
	alongX, alongY := deep(put), deep(put)
	alongX.Cur[1].X, alongX.Cur[2].X = 15, 25
	alongY.Cur[0].Y, alongY.Cur[2].Y = 70, 270
	for _, axis := range []string{"00", "01"} {
		got, e := hint.Run(plain(), z, code(begin, axis))
		judged(t, "put", got, e, put, 0)
		got, e = hint.Run(plain(), z, code(begin, axis, "31"))
		judged(t, "31", got, e, alongX, 0)
		got, e = hint.Run(plain(), z, code(begin, axis, "30"))
		judged(t, "30", got, e, alongY, 0)
	}
}

// P10.4, 30 and 31: where smoothing refuses.
func TestSmoothingRefused(t *testing.T) {
	z := moved(row(-1, 10), maxFix)
	_, e := hint.Run(plain(), z, code("B0 00 2E"))
	if e != 0 {
		t.Error(e)
	}
	refused(t, "31", plain(), z, code("B0 00 2E 31"), 104)
	refused(t, "30", plain(), turned(z), code("00 B0 00 2E 30"), 104)
	refused(t, "touched beforehand", plain(), touched(z, 0), code("31"), 104)
	smoothed(t, "not touched", plain(), z, z, "31")
	if got, e := hint.Run(plain(), touched(z, 0), code("30")); e != 0 || !same(got, touched(z, 0)) {
		t.Error("the other axis", got, e)
	}
	refused(t, "what stands behind isn't read", plain(), touched(z, 0), code("31 4F"), 104)
	refused(t, "what stands ahead is", plain(), touched(z, 0), code("4F 31"), 102)
	smoothed(t, "in Fpgm and Prep there is no point", with(plain(), code("31 30"), code("31 30")), touched(z, 0), touched(z, 0), "")
}
