package path_test

import (
	"fmt"
	"math/rand"
	"slices"
	"testing"

	"serif/api"
	"serif/path"
)

// flat: the polygon of the contour alone and among others, as the model has it too; nil asks for ErrPath.
func flat(t *testing.T, contour []api.Knot, want []api.Spot) {
	t.Helper()
	fault := api.Errno(0)
	if want == nil {
		fault = 61
	}
	before := slices.Clone(contour)
	square := knots(on(0, 0), on(9, 0), on(9, 9))
	for i, o := range [][][]api.Knot{{contour}, {contour, square}, {square, nil, contour}} {
		var right [][]api.Spot
		if want != nil {
			edge := spots(at(0, 0), at(9, 0), at(9, 9))
			right = [][][]api.Spot{{want}, {want, edge}, {edge, nil, want}}[i]
		}
		if p, e := path.Flat(o); e != fault || !same(p, right) {
			t.Errorf("Flat of %v: %v, %v; not %v", o, p, e, right)
		}
		if p, e := flatModel(o); e != fault || !same(p, right) {
			t.Errorf("the model of %v: %v, %v; not %v", o, p, e, right)
		}
	}
	if !slices.Equal(contour, before) {
		t.Errorf("%v is changed", before)
	}
}

// The section Examples.
func TestExample(t *testing.T) {
	flat(t, knots(on(0, 0), quad(8, 8), on(16, 0)), spots(at(0, 0), at(8, 4), at(16, 0)))
}

// P6.3: no contour, contours without knots, one knot.
func TestFlatLittle(t *testing.T) {
	for _, o := range [][][]api.Knot{nil, {}, {nil}, {{}}, {nil, {}, nil}, make([][]api.Knot, 256)} {
		if p, e := path.Flat(o); e != 0 || !same(p, make([][]api.Spot, len(o))) {
			t.Error(len(o), p, e)
		}
	}
	flat(t, knots(on(3, -4)), spots(at(3, -4)))
	flat(t, knots(quad(3, -4)), spots(at(3, -4)))
	flat(t, knots(cubic(3, -4)), nil)
}

// P6.3, P6.5: knots on the curve alone are the polygon, those at one place too.
func TestFlatLines(t *testing.T) {
	flat(t, knots(on(0, 0), on(5, 1), on(2, 7)), spots(at(0, 0), at(5, 1), at(2, 7)))
	flat(t, knots(on(4, 4), on(4, 4)), spots(at(4, 4), at(4, 4)))
	flat(t, knots(on(1, 1), on(2, 2), on(1, 1)), spots(at(1, 1), at(2, 2), at(1, 1)))
	flat(t, knots(on(maxFix, -maxFix), on(-maxFix, maxFix)), spots(at(maxFix, -maxFix), at(-maxFix, maxFix)))
}

// P6.3: the start is the first knot on the curve, and the way goes round to it.
func TestFlatStart(t *testing.T) {
	flat(t, knots(quad(2, 2), on(0, 0), on(4, 0)), spots(at(0, 0), at(4, 0)))
	flat(t, knots(quad(8, 8), on(16, 0), on(0, 0)), spots(at(16, 0), at(0, 0), at(8, 4)))
	flat(t, knots(cubic(0, 1), cubic(1, 1), on(1, 0), on(0, 0)), spots(at(1, 0), at(0, 0)))
	flat(t, knots(cubic(1, 1), on(1, 0), on(0, 0), cubic(0, 1)), spots(at(1, 0), at(0, 0)))
	flat(t, knots(quad(2, 0), quad(4, 2), on(5, 5), on(0, 5)), spots(at(5, 5), at(0, 5), at(2, 2), at(3, 1)))
	flat(t, knots(quad(4, 2), on(5, 5), on(0, 5), quad(2, 0)), spots(at(5, 5), at(0, 5), at(2, 2), at(3, 1)))
	flat(t, knots(quad(1, 0), quad(2, 0), quad(3, 0), on(4, 0), on(2, 9)), spots(at(4, 0), at(2, 9), at(2, 2), at(2, 0), at(3, 0)))
}

// P6.3: a quad knot that is the last one to come, that is followed by a knot on the curve, by a quad and by a cubic knot.
func TestFlatQuad(t *testing.T) {
	flat(t, knots(on(0, 0), quad(8, 8)), spots(at(0, 0), at(3, 3), at(4, 4), at(3, 3)))
	flat(t, knots(on(0, 0), on(16, 0), quad(8, 8)), spots(at(0, 0), at(16, 0), at(8, 4)))
	flat(t, knots(on(0, 0), quad(1, 1), on(2, 0)), spots(at(0, 0), at(2, 0)))
	flat(t, knots(on(0, 0), quad(1, 1), on(2, 0), on(5, 5)), spots(at(0, 0), at(2, 0), at(5, 5)))
	flat(t, knots(on(0, 0), quad(1, 1), on(2, 0), quad(1, -1)), spots(at(0, 0), at(2, 0)))
	flat(t, knots(on(0, 0), quad(2, 0), quad(4, 2), on(4, 4)), spots(at(0, 0), at(3, 1), at(4, 4)))
	flat(t, knots(on(0, 0), quad(0, 1), cubic(1, 1), cubic(2, 2)), nil)
	flat(t, knots(on(0, 0), quad(0, 1), cubic(1, 1), cubic(2, 2), on(3, 3)), nil)
	flat(t, knots(on(0, 0), quad(0, 1), cubic(1, 1)), nil)
	flat(t, knots(cubic(1, 1), cubic(2, 2), on(3, 3), quad(0, 0)), nil)
	flat(t, knots(quad(1, 1), on(3, 3), cubic(0, 0), cubic(1, 0)), nil)
}

// P6.3: cubic knots come by two, and behind them one on the curve or nothing.
func TestFlatCubic(t *testing.T) {
	flat(t, knots(on(0, 0), cubic(0, 1), cubic(1, 1)), spots(at(0, 0), at(0, 1)))
	flat(t, knots(on(0, 0), cubic(0, 1), cubic(1, 1), on(1, 0)), spots(at(0, 0), at(1, 0)))
	flat(t, knots(on(0, 0), cubic(0, 1), cubic(1, 1), on(1, 0), on(7, 7)), spots(at(0, 0), at(1, 0), at(7, 7)))
	flat(t, knots(on(0, 0), cubic(0, 1), cubic(1, 1), on(1, 0), cubic(1, -1), cubic(0, -1)), spots(at(0, 0), at(1, 0)))
	flat(t, knots(on(0, 0), cubic(0, 1), cubic(1, 1), on(1, 0), quad(1, -1), on(0, -1)), spots(at(0, 0), at(1, 0), at(0, -1)))
	flat(t, knots(on(0, 0), cubic(0, 8), cubic(8, 8), on(8, 0)), spots(at(0, 0), at(1, 5), at(4, 6), at(7, 5), at(8, 0)))
	for _, contour := range [][]api.Knot{
		knots(on(0, 0), cubic(0, 1)),
		knots(on(0, 0), cubic(0, 1), on(1, 1)),
		knots(on(0, 0), cubic(0, 1), on(1, 1), cubic(2, 2)),
		knots(on(0, 0), cubic(0, 1), quad(1, 1)),
		knots(on(0, 0), cubic(0, 1), quad(1, 1), on(2, 2)),
		knots(on(0, 0), cubic(0, 1), cubic(1, 1), cubic(2, 2)),
		knots(on(0, 0), cubic(0, 1), cubic(1, 1), cubic(2, 2), on(3, 3)),
		knots(on(0, 0), cubic(0, 1), cubic(1, 1), cubic(2, 2), cubic(3, 3)),
		knots(on(0, 0), cubic(0, 1), cubic(1, 1), quad(2, 2)),
		knots(on(0, 0), cubic(0, 1), cubic(1, 1), quad(2, 2), on(3, 3)),
		knots(cubic(0, 1), on(0, 0), on(1, 1)),
		knots(cubic(0, 1), on(0, 0), cubic(1, 1), cubic(2, 2)),
		knots(cubic(0, 1), cubic(1, 1), on(0, 0), cubic(2, 2)),
		knots(cubic(0, 1), cubic(1, 1), cubic(2, 2), on(0, 0)),
	} {
		flat(t, contour, nil)
	}
}

// P6.3: without a knot on the curve the start is the middle of the last and the first, if the first isn't cubic.
func TestFlatNoneOnCurve(t *testing.T) {
	flat(t, knots(quad(2, 0), quad(0, 2)), spots(at(1, 1), at(1, 1)))
	flat(t, knots(quad(0, 0), quad(2, 0), quad(2, 2), quad(0, 2)), spots(at(0, 1), at(1, 0), at(2, 1), at(1, 2)))
	flat(t, knots(quad(0, 0), quad(4, 0), quad(2, 4)), spots(at(1, 2), at(1, 1), at(2, 0), at(3, 1), at(3, 2)))
	for _, contour := range [][]api.Knot{
		knots(cubic(0, 0), cubic(1, 1)),
		knots(cubic(0, 0), cubic(1, 1), cubic(2, 2)),
		knots(cubic(0, 0), quad(1, 1)),
		knots(cubic(0, 0), cubic(1, 1), quad(2, 2)),
		knots(cubic(0, 0), quad(1, 1), quad(2, 2)),
		knots(quad(0, 0), cubic(1, 1)),
		knots(quad(0, 0), cubic(1, 1), cubic(2, 2)),
		knots(quad(0, 0), quad(1, 1), cubic(2, 2), cubic(3, 3)),
		knots(quad(0, 0), cubic(1, 1), cubic(2, 2), quad(3, 3)),
	} {
		flat(t, contour, nil)
	}
}

// P6.3: the middle is the nearest of half the sum, halves away from 0, in X and in Y.
func TestFlatMiddle(t *testing.T) {
	for _, c := range []struct{ a, b, middle int }{
		{0, 1, 1}, {0, -1, -1}, {1, 2, 2}, {-1, -2, -2}, {-1, 2, 1}, {1, -2, -1}, {3, 4, 4}, {-3, -4, -4}, {-3, 4, 1}, {3, -4, -1}, {2, 4, 3}, {-2, -4, -3}, {-3, 3, 0},
		{maxFix, maxFix, maxFix}, {-maxFix, -maxFix, -maxFix}, {maxFix, maxFix - 1, maxFix}, {-maxFix, 1 - maxFix, -maxFix}, {maxFix, -maxFix, 0}, {maxFix, 1 - maxFix, 1}, {-maxFix, maxFix - 1, -1},
	} {
		for _, o := range [][][]api.Knot{{knots(quad(c.b, 0), quad(c.a, 0))}, {knots(quad(c.a, 0), quad(c.b, 0))}, {knots(quad(0, c.b), quad(0, c.a))}, {knots(quad(0, c.a), quad(0, c.b))}} {
			want := at(c.middle, 0)
			if o[0][0].X == 0 && o[0][1].X == 0 {
				want = at(0, c.middle)
			}
			// Both middles are points of the polygon: the start, and the one between the two knots, halfway round.
			p, e := path.Flat(o)
			if e != 0 || len(p) != 1 || len(p[0]) < 2 || p[0][0] != want || p[0][len(p[0])/2] != want {
				t.Error(o, p, e)
			}
		}
		// A middle that isn't the start.
		p, e := path.Flat(outline(knots(on(c.a, 0), quad(c.a, 0), quad(c.b, 0), on(c.b, 0))))
		if e != 0 || !slices.Contains(p[0], at(c.middle, 0)) {
			t.Error(c, p, e)
		}
	}
}

// P6.3: the last point is left out if it comes from a curve whose end is the start, and else it is not.
func TestFlatLast(t *testing.T) {
	flat(t, knots(on(0, 0), quad(1, 1)), spots(at(0, 0)))
	flat(t, knots(on(5, 5), quad(5, 5)), spots(at(5, 5)))
	flat(t, knots(quad(1, 1), on(0, 0)), spots(at(0, 0)))
	flat(t, knots(on(5, 5), cubic(5, 5), cubic(5, 5)), spots(at(5, 5)))
	flat(t, knots(cubic(5, 5), on(5, 5), cubic(5, 5)), spots(at(5, 5)))
	flat(t, knots(on(0, 0), quad(2, 2)), spots(at(0, 0), at(1, 1)))
	flat(t, knots(on(0, 0), on(2, 0), quad(1, 1)), spots(at(0, 0), at(2, 0)))
	// A knot on the curve at the place of the start isn't the start.
	flat(t, knots(on(0, 0), quad(2, 2), on(0, 0)), spots(at(0, 0), at(1, 1), at(0, 0)))
	flat(t, knots(on(0, 0), quad(1, 1), on(0, 0)), spots(at(0, 0), at(0, 0)))
	flat(t, knots(on(0, 0), cubic(0, 1), cubic(0, 1), on(0, 0)), spots(at(0, 0), at(0, 0)))
	flat(t, knots(on(0, 0), on(2, 0), on(0, 0)), spots(at(0, 0), at(2, 0), at(0, 0)))
	// Nor is a middle there.
	flat(t, knots(on(0, 0), quad(1, 1), quad(-1, -1), on(-2, -2)), spots(at(0, 0), at(0, 0), at(-2, -2)))
}

// P6.3: one contour that is refused refuses the outline, wherever it is.
func TestFlatRefuses(t *testing.T) {
	good, bad := knots(on(0, 0), quad(8, 8), on(16, 0)), knots(on(0, 0), cubic(1, 1), on(2, 2))
	for _, o := range [][][]api.Knot{{bad, good, good}, {good, bad, good}, {good, good, bad}, {bad, bad}, {nil, bad, knots(cubic(0, 0))}, {knots(cubic(0, 0)), good}} {
		if p, e := path.Flat(o); len(p) != 0 || e != 61 {
			t.Error(o, p, e)
		}
	}
	many := filled(256, 1)
	many[255] = knots(quad(0, 0), cubic(1, 1))
	if p, e := path.Flat(many); len(p) != 0 || e != 61 {
		t.Error(len(p), e)
	}
}

// The bounds at which a curve gets more points, and how many it has up to there.
func TestFlatCounts(t *testing.T) {
	for _, c := range []struct{ d, n int }{
		{0, 1}, {1, 1}, {3, 1}, {4, 1}, {5, 2}, {15, 2}, {16, 2}, {17, 4}, {63, 4}, {64, 4}, {65, 8}, {255, 8}, {256, 8}, {257, 16}, {1023, 16}, {1024, 16}, {1025, 16}, {4096, 16}, {4097, 16}, {1 << 30, 16}, {maxFix, 16},
	} {
		less := c.d / 3
		for _, s := range [][2]int{{c.d, 0}, {-c.d, 0}, {0, c.d}, {0, -c.d}, {less, c.d - less}, {-less, c.d - less}, {less, less - c.d}, {less - c.d, -less}} {
			end := on(s[0], s[1])
			// d is |Ax - 2 Cx + Bx| + |Ay - 2 Cy + By|; here A and C are 0.
			counted(t, knots(on(0, 0), quad(0, 0), end, on(1, 1)), c.n)
			// Here B and C are.
			counted(t, knots(end, quad(0, 0), on(0, 0), on(1, 1)), c.n)
			// With two controls either three may be bent.
			counted(t, knots(on(0, 0), cubic(0, 0), cubic(0, 0), end, on(1, 1)), c.n)
			counted(t, knots(end, cubic(0, 0), cubic(0, 0), on(0, 0), on(1, 1)), c.n)
		}
		if c.d%2 == 0 {
			half := c.d / 2
			counted(t, knots(on(0, 0), quad(half, 0), on(0, 0), on(1, 1)), c.n)
			counted(t, knots(on(0, 0), quad(0, -half), on(0, 0), on(1, 1)), c.n)
			// In both threes: from (half, 0) by (0, 0) twice to (0, half).
			counted(t, knots(on(half, 0), cubic(0, 0), cubic(0, 0), on(0, half), on(1, 1)), c.n)
			counted(t, knots(on(half, 0), cubic(0, 0), cubic(0, 0), on(-half, 0), on(1, 1)), c.n)
		}
		if c.d%3 == 0 {
			// A control alone is counted in both threes: twice in its own, once in the other's.
			third := c.d / 3
			counted(t, knots(on(0, 0), cubic(third, 0), cubic(0, 0), on(0, 0), on(1, 1)), c.n)
			counted(t, knots(on(0, 0), cubic(0, 0), cubic(0, -third), on(0, 0), on(1, 1)), c.n)
		}
	}
}

// counted: a contour whose polygon is its start, a curve's points, so many, and one point more.
func counted(t *testing.T, contour []api.Knot, n int) {
	t.Helper()
	p, e := path.Flat(outline(contour))
	if e != 0 || len(p) != 1 || len(p[0]) != n+2 {
		t.Error(contour, n, p, e)
		return
	}
	if right, ok := polygonModel(contour); !ok || !slices.Equal(p[0], right) {
		t.Error(contour, p, right)
	}
}

// P6.4: the points of curves as they are by hand, with halves away from 0.
func TestFlatCurves(t *testing.T) {
	// n is 2: (A + 2 C + B) by 4.
	flat(t, knots(on(0, 0), quad(3, -3), on(0, 0)), spots(at(0, 0), at(2, -2), at(0, 0)))
	flat(t, knots(on(0, 0), quad(4, -4), on(2, -2)), spots(at(0, 0), at(3, -3), at(2, -2)))
	// n is 4 and 8, of one control: of 4 (9 A + 6 C + B), (4 A + 8 C + 4 B), (A + 6 C + 9 B) by 16.
	flat(t, knots(on(0, 0), quad(16, 0), on(0, 0)), spots(at(0, 0), at(6, 0), at(8, 0), at(6, 0), at(0, 0)))
	flat(t, knots(on(0, 0), quad(0, 0), on(40, -56)), spots(at(0, 0), at(1, -1), at(3, -4), at(6, -8), at(10, -14), at(16, -22), at(23, -32), at(31, -43), at(40, -56)))
	// n is 2, of two controls: (A + 3 C + 3 D + B) by 8.
	flat(t, knots(on(0, 0), cubic(0, 0), cubic(0, 0), on(12, -4)), spots(at(0, 0), at(2, -1), at(12, -4)))
	flat(t, knots(on(0, 0), cubic(2, 0), cubic(0, 0), on(0, 0)), spots(at(0, 0), at(1, 0), at(0, 0)))
	flat(t, knots(on(0, 0), cubic(0, 0), cubic(0, 2), on(0, 0)), spots(at(0, 0), at(0, 1), at(0, 0)))
	// n is 4, of two controls: (27 A + 27 C + 9 D + B), (8 A + 24 C + 24 D + 8 B), (A + 9 C + 27 D + 27 B) by 64.
	flat(t, knots(on(0, 0), cubic(4, -4), cubic(0, 0), on(0, 0)), spots(at(0, 0), at(2, -2), at(2, -2), at(1, -1), at(0, 0)))
	// At the ends of FIX, where a product has most bits.
	flat(t, knots(on(maxFix, -maxFix), quad(maxFix, -maxFix), on(maxFix, -maxFix)), spots(at(maxFix, -maxFix), at(maxFix, -maxFix)))
	for _, kinds := range [][]api.Knot{
		knots(on(maxFix, -maxFix), quad(-maxFix, maxFix), on(maxFix, -maxFix)),
		knots(on(maxFix, maxFix), cubic(-maxFix, -maxFix), cubic(maxFix, maxFix), on(-maxFix, -maxFix)),
		knots(on(-maxFix, 0), cubic(maxFix, maxFix), cubic(maxFix, maxFix), on(maxFix, maxFix)),
		knots(on(maxFix, 0), cubic(maxFix, 1), cubic(maxFix, maxFix), on(maxFix, maxFix)),
		knots(quad(maxFix, maxFix), quad(-maxFix, -maxFix), quad(maxFix, maxFix)),
	} {
		right, _ := polygonModel(kinds)
		flat(t, kinds, right)
	}
}

// within: does every point of the polygons lie in the hull?
func within(t *testing.T, o [][]api.Knot, p [][]api.Spot) {
	t.Helper()
	hull, _ := path.Hull(o)
	for _, polygon := range p {
		for _, s := range polygon {
			if s.X < hull.X0 || s.X > hull.X1 || s.Y < hull.Y0 || s.Y > hull.Y1 {
				t.Fatalf("%v: %v is beyond %v", o, s, hull)
			}
		}
	}
}

// P6.5: points at the hull's edge are within it, and those of curves along the edge stay on it.
func TestFlatAtEdge(t *testing.T) {
	for _, n := range []int{0, 1, -1, 7, -7, maxFix, -maxFix, maxFix - 1, 1 - maxFix} {
		for _, contour := range [][]api.Knot{
			knots(on(n, 0), quad(n, 5), on(n, 99)), knots(on(n, 0), cubic(n, 700), cubic(n, -5), on(n, 3)), knots(quad(n, 1), quad(n, 50), quad(n, 2)),
			knots(on(n, n), quad(n, n)), knots(on(n, n), cubic(n, n), cubic(n, n)), knots(on(n, 100), quad(n, -100), on(n, 100), quad(n, 100), quad(n, -1000)),
		} {
			p, e := path.Flat(outline(contour))
			if e != 0 {
				t.Fatal(contour, e)
			}
			within(t, outline(contour), p)
			for _, s := range p[0] {
				if s.X != n {
					t.Error(contour, p)
				}
			}
			hull, _ := path.Hull(outline(contour))
			if b, ok := path.Bounds(p); !ok || b.X0 != hull.X0 || b.X1 != hull.X1 || b.Y0 < hull.Y0 || b.Y1 > hull.Y1 {
				t.Error(contour, b, hull)
			}
		}
	}
}

// P6.3 to P6.5, P2: random outlines beside a second reading of the chapter; twice the same.
func TestFlatRandom(t *testing.T) {
	r := rand.New(rand.NewSource(6))
	refusals := 0
	for range 8000 {
		o := randomOutline(r)
		before := deep(o)
		p, e := path.Flat(o)
		if right, want := flatModel(o); e != want || !same(p, right) {
			t.Fatalf("Flat of %v: %v, %v; not %v, %v", o, p, e, right, want)
		}
		again, f := path.Flat(o)
		if !same(again, p) || f != e || !same(o, before) {
			t.Fatalf("Flat of %v: another answer, or it is changed", before)
		}
		within(t, o, p)
		if e != 0 {
			refusals++
		}
	}
	if refusals < 500 || refusals > 4000 {
		t.Error("of 8000 outlines refused are", refusals)
	}
}

// P6.5: a contour of knots on the curve alone is its own polygon.
func TestFlatLinesRandom(t *testing.T) {
	r := rand.New(rand.NewSource(65))
	for range 500 {
		var contour []api.Knot
		var polygon []api.Spot
		for range r.Intn(12) {
			x, y := randomPlace(r)
			contour, polygon = append(contour, on(x, y)), append(polygon, at(x, y))
		}
		if p, e := path.Flat(outline(contour)); e != 0 || !same(p, [][]api.Spot{polygon}) {
			t.Fatal(contour, p, e)
		}
	}
}

// P1: as many knots as there may be, all of which make curves of 16 points.
func TestFlatMost(t *testing.T) {
	var contour []api.Knot
	for i := range 4096 {
		contour = append(contour, quad(i%2*maxFix, i/2%2*maxFix))
	}
	p, e := path.Flat(outline(contour))
	if e != 0 || len(p) != 1 || len(p[0]) != 16*4096 {
		t.Error(len(p), e)
	}
	within(t, outline(contour), p)
	contour = append(contour, quad(0, 0))
	if p, e := path.Flat(outline(contour)); len(p) != 0 || e != 63 {
		t.Error(len(p), e)
	}
}

// roomy: lists in one piece of memory, each with what stands behind it as its spare room; some begin ahead of their start.
func roomy() ([][]api.Knot, []api.Knot) {
	all := knots(on(0, 0), quad(8, 8), on(16, 0), on(1, 1), cubic(9, 9), cubic(8, 1), on(5, 5), quad(2, 2), quad(3, 3), cubic(4, 4), cubic(6, 6), on(6, 7), on(7, 7))
	return outline(all[:3], all[1:4], all[3:7], all[7:9], all[9:12], all[12:12]), all
}

// fillUp: writes over every element of the lists, spare room included.
func fillUp[P any](lists [][]P, with P) {
	for _, list := range lists[:cap(lists)] {
		list = list[:cap(list)]
		for i := range list {
			list[i] = with
		}
	}
}

// apart: no two lists share memory, spare room included: what is written into one is in no other.
func apart[P comparable](t *testing.T, name string, lists [][]P, marks func(i int) P) {
	t.Helper()
	for i := range lists {
		fillUp(lists[i:i+1:i+1], marks(i))
	}
	for i, list := range lists {
		for _, p := range list[:cap(list)] {
			if p != marks(i) {
				t.Errorf("%s: the list %d shares with another", name, i)
			}
		}
	}
}

// The rules: what is handed in is left as it was, spare room too, and the answer shares nothing with it and within itself.
func TestMemory(t *testing.T) {
	knotMark := func(i int) api.Knot { return api.Knot{X: 1000 + i} }
	for name, of := range map[string]func(o [][]api.Knot) ([][]api.Knot, api.Errno){
		"Move":   func(o [][]api.Knot) ([][]api.Knot, api.Errno) { return path.Move(o, 0, 0) },
		"Turn":   func(o [][]api.Knot) ([][]api.Knot, api.Errno) { return path.Turn(o, [4]int{16384, 0, 0, 16384}) },
		"Resize": func(o [][]api.Knot) ([][]api.Knot, api.Errno) { return path.Resize(o, 7, 7) },
	} {
		o, all := roomy()
		before := slices.Clone(all)
		p, e := of(o)
		if e != 0 || !same(p, o) || !slices.Equal(all, before) {
			t.Error(name, p, e, all)
		}
		right := deep(o)
		fillUp(outline(all), api.Knot{X: 77})
		if !same(p, right) {
			t.Error(name, "shares with what was handed in:", p)
		}
		fillUp(outline(all), api.Knot{X: 78})
		apart(t, name, p, knotMark)
		if !slices.Equal(all, slices.Repeat(knots(api.Knot{X: 78}), len(all))) {
			t.Error(name, "has what was handed in in its spare room")
		}
	}
	o, all := roomy()
	before := slices.Clone(all)
	p, e := path.Flat(o)
	right, _ := flatModel(o)
	if e != 0 || !same(p, right) || !slices.Equal(all, before) {
		t.Error("Flat", p, e, all)
	}
	fillUp(outline(all), api.Knot{X: 77})
	if !same(p, right) {
		t.Error("Flat shares with what was handed in:", p)
	}
	apart(t, "Flat", p, func(i int) api.Spot { return at(1000+i, 0) })
	hulls(t)
}

// hulls: Hull and Bounds leave what is handed in.
func hulls(t *testing.T) {
	o, all := roomy()
	before := slices.Clone(all)
	path.Hull(o)
	points := spots(at(1, 2), at(3, 4), at(5, 6))
	path.Bounds([][]api.Spot{points[:2], points[2:]})
	if !slices.Equal(all, before) || !slices.Equal(points, spots(at(1, 2), at(3, 4), at(5, 6))) {
		t.Error(all, points)
	}
}

// The sections Types and Errors, and the limits, by their numbers.
func TestNumbers(t *testing.T) {
	got := fmt.Sprint(api.KnotOn, api.KnotQuad, api.KnotCubic, int(api.ErrPath), int(api.ErrPathMany), int(api.ErrPathFix), api.MaxContours, api.MaxPoints, api.MaxFix)
	if got != "1 2 3 61 63 64 256 4096 2147483647" {
		t.Error(got)
	}
}

// P2: a call between two others changes nothing that they answer, whether it is refused or not.
func TestCallsApart(t *testing.T) {
	o, _ := roomy()
	first, _ := path.Flat(o)
	for _, c := range slices.Concat(calls(), spoilt()) {
		c.of(filled(257, 0))
		c.of(outline(knots(api.Knot{Kind: 7})))
		c.of(outline(knots(on(maxFix+1, 0))))
		c.of(outline(knots(on(0, 0), cubic(1, 1))))
		c.of(filled(3, 3))
		if p, e := path.Flat(o); e != 0 || !same(p, first) {
			t.Error(c.name, p, e)
		}
	}
}
