package path_test

import (
	"fmt"
	"math"
	"math/big"
	"math/rand"
	"slices"
	"testing"

	"serif/api"
	"serif/path"
)

// call is one of those with errors, its other arguments being some that layer 1 takes with any FIX.
type call struct {
	name string
	of   func(o [][]api.Knot) (int, api.Errno) // how many lists it answers, and the error
}

func calls() []call {
	unit := [4]int{16384, 0, 0, 16384}
	return []call{
		{"Move", func(o [][]api.Knot) (int, api.Errno) { p, e := path.Move(o, 0, 0); return len(p), e }},
		{"Turn", func(o [][]api.Knot) (int, api.Errno) { p, e := path.Turn(o, unit); return len(p), e }},
		{"Resize", func(o [][]api.Knot) (int, api.Errno) { p, e := path.Resize(o, 1, 1); return len(p), e }},
		{"Flat", func(o [][]api.Knot) (int, api.Errno) { p, e := path.Flat(o); return len(p), e }},
	}
}

// spoilt: the calls with arguments that layer 1 refuses with any knot. What is wrong with the outline is asked ahead of them.
func spoilt() []call {
	return []call{
		{"Move by much", func(o [][]api.Knot) (int, api.Errno) {
			p, e := path.Move(o, math.MaxInt, math.MinInt)
			return len(p), e
		}},
		{"Turn by much", func(o [][]api.Knot) (int, api.Errno) {
			p, e := path.Turn(o, [4]int{maxFix + 1, 0, 0, 0})
			return len(p), e
		}},
		{"Resize by 0", func(o [][]api.Knot) (int, api.Errno) { p, e := path.Resize(o, 1, 0); return len(p), e }},
	}
}

// answers: every one of the calls answers the error, and no list beside it; without one, as many lists as were handed in.
func answers(t *testing.T, name string, list []call, o [][]api.Knot, want api.Errno) {
	t.Helper()
	lists := len(o)
	if want != 0 {
		lists = 0
	}
	before := deep(o)
	for _, c := range list {
		if n, e := c.of(o); n != lists || e != want {
			t.Errorf("%s: %s answers %d lists, %v; not %v", name, c.name, n, e, want)
		}
	}
	if !same(o, before) {
		t.Errorf("%s: the outline is changed", name)
	}
}

// filled: so many contours, with so many knots on the curve each.
func filled(contours, each int) [][]api.Knot {
	out := make([][]api.Knot, contours)
	for i := range out {
		out[i] = slices.Repeat(knots(on(1, 2)), each)
	}
	return out
}

// with: a copy of the outline in which one knot is another.
func with(o [][]api.Knot, contour, place int, k api.Knot) [][]api.Knot {
	out := deep(o)
	out[contour][place] = k
	return out
}

// The section Errors: as many contours and knots as there may be, and one more.
func TestMany(t *testing.T) {
	for _, o := range [][][]api.Knot{nil, {}, {nil}, {{}, nil}, filled(256, 0), filled(1, 4096), filled(256, 16), filled(255, 16), append(filled(1, 4095), knots(on(0, 0))), append(filled(255, 0), filled(1, 4096)...)} {
		answers(t, fmt.Sprint(len(o), " contours"), calls(), o, 0)
	}
	for _, o := range [][][]api.Knot{
		filled(257, 0), filled(257, 1), filled(1000, 0), filled(1, 4097), filled(1, 10000), filled(2, 4096), filled(2, 2049), append(filled(1, 4096), knots(on(0, 0))),
		append(filled(1, 1), filled(1, 4096)...), append(filled(255, 16), filled(1, 17)...), append(filled(1, 17), filled(255, 16)...), append(filled(256, 0), nil),
	} {
		answers(t, fmt.Sprint(len(o), " contours"), slices.Concat(calls(), spoilt()), o, 63)
	}
}

// otherKinds: none of the three; some would be one of them in fewer bits.
func otherKinds() []int {
	return []int{0, 4, 5, -1, -2, -3, 257, 1<<16 + 2, 1<<32 + 1, 1<<32 + 3, -1<<32 + 2, math.MaxInt, math.MinInt, math.MinInt + 1}
}

// noFix: just beyond the ends of FIX, and further; some would be small in fewer bits.
func noFix() []int {
	return []int{maxFix + 1, -maxFix - 1, maxFix + 2, -maxFix - 2, 1 << 32, 1<<32 + 5, -1 << 32, 1 << 62, -1 << 62, math.MaxInt, math.MaxInt - 1, math.MinInt, math.MinInt + 1}
}

// The section Errors: a knot of another kind, wherever it is.
func TestOtherKind(t *testing.T) {
	for _, kind := range otherKinds() {
		k := api.Knot{X: 3, Y: 4, Kind: kind}
		for _, place := range [][2]int{{0, 0}, {0, 3}, {1, 1}, {2, 0}, {2, 3}} {
			answers(t, fmt.Sprint("kind ", kind), slices.Concat(calls(), spoilt()), with(filled(3, 4), place[0], place[1], k), 61)
		}
		answers(t, fmt.Sprint("kind ", kind, " alone"), slices.Concat(calls(), spoilt()), outline(nil, knots(k)), 61)
	}
	for kind := 1; kind <= 3; kind++ {
		list := calls()[:3] // Flat asks more of the kinds
		answers(t, fmt.Sprint("kind ", kind), list, outline(knots(api.Knot{Kind: kind})), 0)
	}
}

// The section Errors: a coordinate at the ends of FIX, and one beyond.
func TestNoFix(t *testing.T) {
	for _, n := range []int{maxFix, -maxFix, maxFix - 1, 1 - maxFix} {
		answers(t, fmt.Sprint("X ", n), calls(), with(filled(3, 4), 1, 2, on(n, 0)), 0)
		answers(t, fmt.Sprint("Y ", n), calls(), with(filled(3, 4), 1, 2, on(0, n)), 0)
		answers(t, fmt.Sprint("both ", n), calls(), with(filled(3, 4), 1, 2, on(n, n)), 0)
	}
	for _, n := range noFix() {
		for _, place := range [][2]int{{0, 0}, {0, 3}, {1, 1}, {2, 0}, {2, 3}} {
			answers(t, fmt.Sprint("X ", n), slices.Concat(calls(), spoilt()), with(filled(3, 4), place[0], place[1], on(n, 0)), 64)
			answers(t, fmt.Sprint("Y ", n), slices.Concat(calls(), spoilt()), with(filled(3, 4), place[0], place[1], on(0, n)), 64)
		}
	}
	// Layer 1's MulDiv takes what is no FIX, if the answer is one: the outline isn't taken, for all that.
	if p, e := path.Resize(outline(knots(on(maxFix+1, 0))), 1, 2); len(p) != 0 || e != 64 {
		t.Error(p, e)
	}
	if p, e := path.Resize(outline(knots(on(0, -maxFix-1))), 1, 2); len(p) != 0 || e != 64 {
		t.Error(p, e)
	}
}

// The section Errors: of two faults the first in the chapter's order is answered, wherever they are.
func TestTwoFaults(t *testing.T) {
	all := slices.Concat(calls(), spoilt())
	other, far := api.Knot{Kind: 9}, on(maxFix+1, 0)
	for _, many := range [][][]api.Knot{filled(257, 1), filled(1, 4097), filled(2, 2049)} {
		answers(t, "many, another kind", all, with(many, 0, 0, other), 63)
		answers(t, "many, no FIX", all, with(many, 0, 0, far), 63)
		answers(t, "many, no curves", all, with(many, 0, 0, cubic(0, 0)), 63)
	}
	answers(t, "no FIX ahead of another kind", all, outline(knots(far, other)), 61)
	answers(t, "no FIX in a contour ahead", all, outline(knots(far), knots(on(1, 1), other)), 61)
	answers(t, "another kind ahead of no FIX", all, outline(knots(other, far)), 61)
	answers(t, "one knot with both", all, outline(knots(api.Knot{X: maxFix + 1, Y: 0, Kind: 9})), 61)
	flat := calls()[3:]
	answers(t, "no curves ahead of no FIX", flat, outline(knots(cubic(0, 0)), knots(far)), 64)
	answers(t, "no curves of no FIX", flat, outline(knots(cubic(maxFix+1, 0))), 64)
	answers(t, "no curves behind no FIX", flat, outline(knots(far), knots(cubic(0, 0))), 64)
	answers(t, "no curves, then another kind and no FIX", flat, outline(knots(cubic(0, 0)), knots(far, other)), 61)
}

// maps: what is asked of a call that gives knots other coordinates, at one knot of each kind and among others.
func maps(t *testing.T, name string, of func(o [][]api.Knot) ([][]api.Knot, api.Errno), x, y int, want api.Spot, fault api.Errno) {
	t.Helper()
	for kind := 1; kind <= 3; kind++ {
		o := outline(nil, knots(on(0, 0), api.Knot{X: x, Y: y, Kind: kind}, cubic(0, 0)), knots(), knots(quad(0, 0)))
		right := outline(nil, knots(on(0, 0), api.Knot{X: want.X, Y: want.Y, Kind: kind}, cubic(0, 0)), knots(), knots(quad(0, 0)))
		if fault != 0 {
			right = nil
		}
		before := deep(o)
		p, e := of(o)
		if e != fault || !same(p, right) {
			t.Errorf("%s of (%d, %d): %v, %v", name, x, y, p, e)
		}
		if !same(o, before) {
			t.Errorf("%s of (%d, %d): the outline is changed", name, x, y)
		}
	}
}

// P6.2 Move: each knot by itself, the kinds and the contours as they were.
func TestMove(t *testing.T) {
	o := outline(knots(on(1, 2), quad(-3, 4), cubic(5, -6)), nil, knots(on(0, 0)))
	if p, e := path.Move(o, 10, -20); e != 0 || !same(p, outline(knots(on(11, -18), quad(7, -16), cubic(15, -26)), nil, knots(on(10, -20)))) {
		t.Error(p, e)
	}
	for _, c := range []struct {
		x, y, dx, dy int
		fault        api.Errno
	}{
		{maxFix - 7, 0, 7, 0, 0}, {maxFix - 7, 0, 8, 0, 64}, {7 - maxFix, 0, -7, 0, 0}, {7 - maxFix, 0, -8, 0, 64},
		{0, maxFix - 7, 0, 7, 0}, {0, maxFix - 7, 0, 8, 64}, {0, 7 - maxFix, 0, -7, 0}, {0, 7 - maxFix, 0, -8, 64},
		{maxFix, -maxFix, -maxFix, maxFix, 0}, {1, 0, maxFix, 0, 64}, {0, 1, 0, maxFix, 64}, {0, 0, maxFix, -maxFix, 0},
		{-1, 0, maxFix + 1, 0, 64}, {0, 1, 0, -maxFix - 1, 64}, {-5, 5, 1 << 32, 0, 64}, {0, 0, 0, math.MinInt, 64}, {1, 0, math.MaxInt, 0, 64},
	} {
		p, e := path.Move(outline(knots(quad(c.x, c.y)), nil), c.dx, c.dy)
		right := outline(knots(quad(c.x+c.dx, c.y+c.dy)), nil)
		if c.fault != 0 {
			right = nil
		}
		if e != c.fault || !same(p, right) {
			t.Error(c, p, e)
		}
	}
}

// P6.2 Turn: both coordinates of the knot as it was, rounded once, halves away from 0.
func TestTurn(t *testing.T) {
	for _, c := range []struct {
		x, y  int
		m     [4]int
		want  api.Spot
		fault api.Errno
	}{
		{4, -2, [4]int{0, -16384, 16384, 0}, at(2, 4), 0},
		{4, -2, [4]int{16384, 0, 0, 16384}, at(4, -2), 0},
		{100, 1000, [4]int{16384, 8192, 4096, -16384}, at(600, -975), 0},
		{1, 2, [4]int{16384, 32768, 49152, 65536}, at(5, 11), 0},
		{1, 1, [4]int{4096, 4096, -4096, -4096}, at(1, -1), 0},
		{1, 1, [4]int{4096, 4095, -4096, -4095}, at(0, 0), 0},
		{3, 0, [4]int{8192, 0, -8192, 0}, at(2, -2), 0},
		{1, 0, [4]int{maxFix, 0, 0, 0}, at(131072, 0), 0},
		{maxFix, maxFix, [4]int{8192, 8192, -8192, -8192}, at(maxFix, -maxFix), 0},
		{maxFix, 0, [4]int{16385, 0, 0, 0}, at(0, 0), 64}, {maxFix, 0, [4]int{0, 0, 16385, 0}, at(0, 0), 64},
		{0, maxFix, [4]int{0, -16385, 0, 0}, at(0, 0), 64}, {0, maxFix, [4]int{0, 0, 0, 16385}, at(0, 0), 64},
		{maxFix, 1, [4]int{16384, 8191, 0, 0}, at(maxFix, 0), 0}, {maxFix, 1, [4]int{16384, 8192, 0, 0}, at(0, 0), 64},
		{maxFix, 1, [4]int{0, 0, -16384, -8191}, at(0, -maxFix), 0}, {maxFix, 1, [4]int{0, 0, -16384, -8192}, at(0, 0), 64},
		{0, 0, [4]int{maxFix, -maxFix, maxFix, -maxFix}, at(0, 0), 0},
	} {
		maps(t, fmt.Sprint("Turn ", c.m), func(o [][]api.Knot) ([][]api.Knot, api.Errno) { return path.Turn(o, c.m) }, c.x, c.y, c.want, c.fault)
	}
	// A matrix that is none of FIX is refused with any knot, even at 0.
	for i := range 4 {
		for _, n := range noFix() {
			var m [4]int
			m[i] = n
			if p, e := path.Turn(outline(knots(on(0, 0))), m); len(p) != 0 || e != 64 {
				t.Error(m, p, e)
			}
		}
	}
}

// P6.2 Resize: any size and any units that layer 1 takes, of 0 and below among them.
func TestResize(t *testing.T) {
	for _, c := range []struct {
		x, y, size, units int
		want              api.Spot
		fault             api.Errno
	}{
		{4, -2, 640, 1000, at(3, -1), 0}, {7, -7, 1, 2, at(4, -4), 0}, {5, -5, 1, 3, at(2, -2), 0}, {1000, 500, 1024, 1000, at(1024, 512), 0},
		{7, -7, 1, -2, at(-4, 4), 0}, {7, -7, -1, -2, at(4, -4), 0}, {7, 5, -3, 1, at(-21, -15), 0}, {7, 5, 0, 9, at(0, 0), 0}, {7, 5, 0, -9, at(0, 0), 0},
		{7, 5, 3, 0, at(0, 0), 64}, {0, 0, 0, 0, at(0, 0), 64}, {0, 0, 3, 0, at(0, 0), 64},
		{maxFix, 0, 1, 1, at(maxFix, 0), 0}, {maxFix, 0, 2, 1, at(0, 0), 64}, {0, maxFix, 2, 1, at(0, 0), 64}, {0, -maxFix, 1, 1, at(0, -maxFix), 0},
		{0, -maxFix, -2, 1, at(0, 0), 64}, {1073741823, 0, 2, 1, at(maxFix-1, 0), 0}, {1073741824, 0, 2, 1, at(0, 0), 64}, {0, -1073741824, 2, 1, at(0, 0), 64},
		{maxFix, -maxFix, math.MaxInt, math.MaxInt, at(maxFix, -maxFix), 0}, {1, 2, math.MaxInt, math.MinInt, at(-1, -2), 0},
		{maxFix, 1, 1 << 62, 1 << 62, at(maxFix, 1), 0}, {maxFix, 1, math.MinInt, math.MinInt, at(maxFix, 1), 0}, {1, 0, math.MaxInt, 1, at(0, 0), 64},
	} {
		maps(t, fmt.Sprint("Resize ", c.size, c.units), func(o [][]api.Knot) ([][]api.Knot, api.Errno) { return path.Resize(o, c.size, c.units) }, c.x, c.y, c.want, c.fault)
	}
}

// P6.2: layer 1 is asked for knots alone; without one there is nothing that it could refuse.
func TestNothingToRefuse(t *testing.T) {
	for _, o := range [][][]api.Knot{nil, {}, {nil}, {{}, nil, {}}} {
		answers(t, "no knots", spoilt(), o, 0)
	}
	answers(t, "one knot", spoilt(), outline(nil, knots(on(0, 0))), 64)
}

// fraction: the nearest of a fraction, or false if it is no FIX.
func fraction(num, den *big.Int) (int, bool) {
	n := new(big.Rat).SetFrac(num, den)
	if size := new(big.Rat).Abs(n); size.Cmp(rat(1<<40)) > 0 {
		return 0, false
	}
	q := away(n)
	return q, q >= -maxFix && q <= maxFix
}

// P6.2, beside a second reckoning of random places, sizes and matrices.
func TestMapsRandom(t *testing.T) {
	r := rand.New(rand.NewSource(62))
	wide := func(a, b, c, d int) *big.Int {
		p, q := new(big.Int).Mul(big.NewInt(int64(a)), big.NewInt(int64(b))), new(big.Int).Mul(big.NewInt(int64(c)), big.NewInt(int64(d)))
		return p.Add(p, q)
	}
	judge := func(name string, p [][]api.Knot, e api.Errno, x, y int, okX, okY bool) {
		right, want := outline(knots(cubic(x, y))), api.Errno(0)
		if !okX || !okY {
			right, want = nil, 64
		}
		if e != want || !same(p, right) {
			t.Fatalf("%s: %v, %v; not %v, %v", name, p, e, right, want)
		}
	}
	for range 20000 {
		x, y := randomPlace(r)
		o := outline(knots(cubic(x, y)))
		m := [4]int{spread(r, 17), spread(r, 17), spread(r, 17), spread(r, 17)}
		p, e := path.Turn(o, m)
		rx, okX := fraction(wide(m[0], x, m[1], y), big.NewInt(16384))
		ry, okY := fraction(wide(m[2], x, m[3], y), big.NewInt(16384))
		judge(fmt.Sprint("Turn ", o, m), p, e, rx, ry, okX, okY)
		size, units := spread(r, 40), spread(r, 40)
		if units != 0 {
			p, e = path.Resize(o, size, units)
			rx, okX = fraction(wide(x, size, 0, 0), big.NewInt(int64(units)))
			ry, okY = fraction(wide(y, size, 0, 0), big.NewInt(int64(units)))
			judge(fmt.Sprint("Resize ", o, size, units), p, e, rx, ry, okX, okY)
		}
		dx, dy := randomPlace(r)
		p, e = path.Move(o, dx, dy)
		rx, okX = fraction(wide(x, 1, dx, 1), big.NewInt(1))
		ry, okY = fraction(wide(y, 1, dy, 1), big.NewInt(1))
		judge(fmt.Sprint("Move ", o, dx, dy), p, e, rx, ry, okX, okY)
	}
}
