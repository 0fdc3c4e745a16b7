package gstate_test

import (
	"fmt"
	"math/rand"
	"slices"
	"testing"

	"serif/api"
	"serif/gstate"
)

// point is one along the axis that is asked.
type point struct {
	org, cur int
	touched  bool
}

// held: a touched point; free: one that isn't.
func held(org, cur int) point { return point{org, cur, true} }
func free(org, cur int) point { return point{org, cur, false} }

// line: points, one behind the other.
func line(list ...point) []point { return list }

// along: a zone with the points along the axis; along the other one they are anywhere, and every other one is touched.
func along(axis int, ends []int, points []point) api.Zone {
	z := filled(len(points))
	for p, one := range points {
		org, cur, other := []int{-maxFix, 5, maxFix}[p%3], []int{maxFix, -3}[p%2], p%2 == 0
		if axis == 0 {
			z.Org[p], z.Cur[p], z.TouchX[p], z.TouchY[p] = at(one.org, org), at(one.cur, cur), one.touched, other
		} else {
			z.Org[p], z.Cur[p], z.TouchX[p], z.TouchY[p] = at(org, one.org), at(cur, one.cur), other, one.touched
		}
	}
	return ended(z, ends...)
}

// smoothed: Smooth answers that zone and error, as the model has them too; the zone that is handed in is left.
func smoothed(t *testing.T, z api.Zone, axis int, right api.Zone, want api.Errno) {
	t.Helper()
	name := fmt.Sprint("Smooth of ", z, axis)
	before := deep(z)
	got, e := gstate.Smooth(z, axis)
	judged(t, name, got, e, right, want)
	model, e := smoothModel(z, axis)
	judged(t, "the model of "+name, model, e, right, want)
	if !same(z, before) {
		t.Errorf("%s: the zone is changed", name)
	}
}

// smooth: where the points are behind Smooth, along either axis; nil asks for ErrZoneFix.
func smooth(t *testing.T, ends []int, points []point, want ...int) {
	t.Helper()
	for axis := range 2 {
		z := along(axis, ends, points)
		if want == nil {
			smoothed(t, z, axis, api.Zone{}, 94)
			continue
		}
		right := deep(z)
		for p, cur := range want {
			right = withCur(right, axis, p, cur)
		}
		smoothed(t, z, axis, right, 0)
	}
}

// contour: likewise of all points in one contour, and also with each other point as its first one.
func contour(t *testing.T, points []point, want ...int) {
	t.Helper()
	for n := range points {
		turned := slices.Concat(points[n:], points[:n])
		ends := []int{len(points) - 1}
		if want == nil {
			smooth(t, ends, turned)
			continue
		}
		smooth(t, ends, turned, slices.Concat(want[n:], want[:n])...)
	}
}

// The section Examples.
func TestSmoothExample(t *testing.T) {
	z := gstate.New(outline(row(knot(0, 0, 1), knot(10, 0, 1), knot(20, 0, 1))))
	z, _ = gstate.Put(z, 0, 0, 0)
	z, _ = gstate.Put(z, 0, 2, 40)
	z, e := gstate.Smooth(z, 0)
	if e != 0 || !slices.Equal(z.Cur, places(at(0, 0), at(20, 0), at(40, 0))) || z.TouchX[1] || !z.TouchX[0] || !z.TouchX[2] {
		t.Error(z, e)
	}
	contour(t, line(held(0, 0), free(10, 10), held(20, 40)), 0, 20, 40)
}

// P9.4: without Ends no point is in a contour; those behind the last end are in none.
func TestSmoothNoContour(t *testing.T) {
	smooth(t, nil, nil, []int{}...)
	smoothed(t, api.Zone{}, 0, api.Zone{}, 0)
	smoothed(t, api.Zone{}, 1, api.Zone{}, 0)
	smooth(t, nil, line(free(3, 4)), 4)
	smooth(t, nil, line(held(3, 4), free(5, 6)), 4, 6)
	smooth(t, nil, line(free(1, 2), held(-maxFix, maxFix), free(5, 6)), 2, maxFix, 6)
	smooth(t, []int{2}, line(held(0, 7), free(1, 1), free(2, 2), free(3, 3), held(4, 0), free(5, 5)), 7, 8, 9, 3, 0, 5)
	smooth(t, []int{2}, line(free(0, 0), free(1, 1), free(2, 2), held(3, 9)), 0, 1, 2, 9)
	smooth(t, []int{2}, line(free(0, 0), held(1, 2), free(2, 2), held(-maxFix, maxFix), free(9, 1)), 1, 2, 3, maxFix, 1)
	smooth(t, []int{0}, line(free(7, 3), held(1, 5), free(2, 2)), 3, 5, 2)
}

// P9.4: contours of one point have no others.
func TestSmoothAlone(t *testing.T) {
	smooth(t, []int{0}, line(free(3, 8)), 8)
	smooth(t, []int{0}, line(held(3, 8)), 8)
	smooth(t, []int{0}, line(held(-maxFix, maxFix)), maxFix)
	smooth(t, []int{0, 1, 2, 3}, line(free(3, 8), held(5, 50), free(-maxFix, maxFix), held(maxFix, -maxFix)), 8, 50, maxFix, -maxFix)
	smooth(t, []int{0, 3}, line(held(3, 80), free(4, 5), held(6, 7), free(8, 9)), 80, 5, 7, 9)
}

// P9.4: no point touched: nothing, also where points are elsewhere than they were, and though others are touched.
func TestSmoothNone(t *testing.T) {
	contour(t, line(free(1, 5), free(2, -9)), 5, -9)
	contour(t, line(free(-maxFix, maxFix), free(2, -9), free(maxFix, -maxFix)), maxFix, -9, -maxFix)
	smooth(t, []int{1, 3, 5}, line(held(0, 1), free(5, 5), free(7, 8), free(9, 9), free(3, 3), held(4, 6)), 1, 6, 8, 9, 5, 6)
}

// P9.4: one point touched: all others by its move, from where they were.
func TestSmoothOne(t *testing.T) {
	contour(t, line(held(10, 13), free(0, 0), free(10, 99), free(20, -7), free(-5, 0)), 13, 3, 13, 23, -2)
	contour(t, line(held(10, 3), free(0, 0), free(10, 10), free(20, 20)), 3, -7, 3, 13)
	contour(t, line(held(10, 10), free(0, 55), free(10, 55), free(20, 55)), 10, 0, 10, 20)
	contour(t, line(held(10, 3), free(0, 0)), 3, -7)
	contour(t, line(held(0, maxFix), free(0, 0), free(-5, 0), free(-maxFix, 1)), maxFix, maxFix, maxFix-5, 0)
	contour(t, line(held(0, -maxFix), free(0, 0), free(5, 0), free(maxFix, 1)), -maxFix, -maxFix, 5-maxFix, 0)
}

// P9.4: all points touched: nothing, whatever their moves.
func TestSmoothAll(t *testing.T) {
	contour(t, line(held(10, 13), held(0, 7)), 13, 7)
	contour(t, line(held(10, 13), held(0, -4), held(3, 3), held(-maxFix, maxFix), held(maxFix, -maxFix)), 13, -4, 3, maxFix, -maxFix)
}

// P9.4: below, at, between, at and above the two, in both orders of them; where there are just two, the points on both sides lie between them.
func TestSmoothTwo(t *testing.T) {
	contour(t, line(held(0, 100), free(-7, 0), free(0, 0), free(3, 0), free(10, 0), free(12, 0), held(10, 200)), 100, 93, 100, 130, 200, 202, 200)
	contour(t, line(held(10, 200), free(-7, 0), free(0, 0), free(3, 0), free(10, 0), free(12, 0), held(0, 100)), 200, 93, 100, 130, 200, 202, 100)
	contour(t, line(held(0, 100), free(3, 0), free(-1, 0), held(10, 200), free(7, 0), free(10, 0), free(11, 0), free(0, 0), free(-1, 0)), 100, 130, 99, 200, 170, 200, 201, 100, 99)
	// The places change sides.
	contour(t, line(held(0, 100), free(-7, 0), free(0, 0), free(3, 0), free(10, 0), free(12, 0), held(10, 0)), 100, 93, 100, 70, 0, 2, 0)
	// The two at one place.
	contour(t, line(held(0, 100), free(-7, 0), free(0, 0), free(3, 0), free(10, 0), free(12, 0), held(10, 100)), 100, 93, 100, 100, 100, 102, 100)
	contour(t, line(held(-30, 5), free(-20, 0), held(-10, 5), free(-30, 0), free(-31, 0), free(-9, 0), free(-10, 0)), 5, 5, 5, 5, 4, 6, 5)
}

// P9.4: next to a point come the touched ones round the contour's end, too; only those two count.
func TestSmoothThree(t *testing.T) {
	contour(t, line(held(0, 100), free(5, 0), held(10, 200), free(15, 0), held(20, 400), free(10, 0)), 100, 150, 200, 300, 400, 250)
	contour(t, line(held(20, 400), free(5, 0), free(25, 0), held(10, 200), free(5, 0), free(11, 0), held(0, 100), free(-1, 0), free(19, 0)), 400, 195, 405, 200, 150, 201, 100, 99, 385)
	contour(t, line(held(0, 0), held(10, 50), free(4, 0), held(2, 2), held(-1, 7), free(1, 1)), 0, 50, 14, 2, 7, 1)
	contour(t, line(held(0, 0), free(50, 0), free(51, 0), held(100, 1000), free(50, 0), held(60, 60), free(50, 0)), 0, 500, 510, 1000, 50, 60, 50)
	contour(t, line(held(0, 0), held(100, 1000), held(50, 7), free(49, 0)), 0, 1000, 7, 7)
}

// P9.4: of equal ones the one ahead of the point is the lesser: its move counts below and at it, the other's above.
func TestSmoothEqual(t *testing.T) {
	contour(t, line(held(10, 20), free(9, 0), free(10, 0), free(11, 0), held(10, 40)), 20, 19, 20, 41, 40)
	contour(t, line(held(10, 40), free(9, 0), free(10, 0), free(11, 0), held(10, 20)), 40, 39, 40, 21, 20)
	contour(t, line(held(10, 20), free(9, 0), free(10, 0), free(11, 0), held(10, 40), free(9, 0), free(10, 0), free(11, 0)), 20, 19, 20, 41, 40, 39, 40, 21)
	contour(t, line(held(0, 7), free(0, 0), held(0, -7), free(0, 0), held(0, 1), free(0, 0)), 7, 7, -7, -7, 1, 1)
	contour(t, line(held(-10, 20), free(-9, 0), held(-10, 40)), 20, 41, 40)
	contour(t, line(held(-10, 20), free(-11, 0), held(-10, 40)), 20, 19, 40)
}

// P9.4: between, the nearest is of the way from the lesser one's place, halves away from 0.
func TestSmoothNearest(t *testing.T) {
	between := func(low, high, cur0, cur1 int, org, want int) {
		t.Helper()
		contour(t, line(held(low, cur0), free(org, 99), held(high, cur1)), cur0, want, cur1)
		contour(t, line(held(high, cur1), free(org, 99), held(low, cur0)), cur1, want, cur0)
	}
	between(0, 2, 0, 1, 1, 1)
	between(0, 2, 0, -1, 1, -1)
	between(0, 2, 10, 11, 1, 11)
	between(0, 2, 10, 9, 1, 9)
	between(0, 2, -10, -9, 1, -9)
	between(0, 2, -10, -11, 1, -11)
	between(0, 2, -1, 0, 1, 0)
	between(0, 2, 1, 0, 1, 0)
	between(-2, 0, 10, 11, -1, 11)
	between(5, 9, 0, 10, 6, 3)
	between(5, 9, 0, -10, 6, -3)
	between(5, 9, 0, 10, 8, 8)
	between(5, 9, 0, -10, 8, -8)
	between(0, 3, 0, 4, 1, 1)
	between(0, 3, 0, 4, 2, 3)
	between(0, 3, 0, -4, 1, -1)
	between(0, 3, 0, -4, 2, -3)
	between(0, 3, 0, 1, 1, 0)
	between(0, 3, 0, 1, 2, 1)
	between(0, 100, 0, 1, 49, 0)
	between(0, 100, 0, 1, 50, 1)
	between(0, 100, 0, -1, 49, 0)
	between(0, 100, 0, -1, 50, -1)
	between(0, 1000, 7, 7, 999, 7)
	between(0, maxFix, 0, maxFix, 1234567891, 1234567891)
	between(0, maxFix, 0, -maxFix, 1234567891, -1234567891)
	between(0, maxFix, 0, maxFix-1, maxFix-1, maxFix-2)
	between(0, maxFix-1, 0, maxFix, 1073741823, 1073741824)
	between(-1073741824, 1073741823, -1073741824, 1073741823, 1, 1)
	between(-1073741824, 1073741823, 1073741823, -1073741824, 1, -2)
	between(-maxFix, 0, maxFix, 0, -1, 1)
	between(maxFix-2, maxFix, maxFix-5, maxFix, maxFix-1, maxFix-2)
	between(-maxFix, 2-maxFix, -maxFix, 5-maxFix, 1-maxFix, 3-maxFix)
}

// P9.4: each contour by its own touched points.
func TestSmoothContours(t *testing.T) {
	smooth(t, []int{1, 4, 6}, line(held(0, 10), free(5, 0), free(5, 0), held(0, 20), free(-5, 0), held(0, -1), free(5, 0)), 10, 15, 25, 20, 15, -1, 4)
	smooth(t, []int{1, 2, 5}, line(free(5, 0), held(0, 10), held(3, 4), free(5, 0), held(0, 20), free(-5, 0)), 15, 10, 4, 25, 20, 15)
	smooth(t, []int{2, 5}, line(held(0, 10), free(5, 0), held(10, 30), held(0, 0), free(5, 5), held(10, 1000)), 10, 20, 30, 0, 500, 1000)
	smooth(t, []int{2, 5}, line(free(5, 0), held(0, 10), held(10, 30), held(0, 0), held(10, 1000), free(5, 5)), 20, 10, 30, 0, 1000, 500)
	smooth(t, []int{2, 5, 8}, line(free(1, 2), free(3, 4), free(5, 6), held(0, 1), free(7, 8), free(9, 10), free(11, 12), free(13, 14), free(15, 16)), 2, 4, 6, 1, 8, 10, 12, 14, 16)
	smooth(t, []int{0, 2}, line(held(0, 100), free(7, 8), free(9, 10)), 100, 8, 10)
}

// P9.4: a move, and a sum with it, at both ends of FIX and one beyond.
func TestSmoothMoveFix(t *testing.T) {
	contour(t, line(held(0, maxFix), free(0, 1)), maxFix, maxFix)
	contour(t, line(held(0, maxFix), free(1, 1)), []int(nil)...)
	contour(t, line(held(0, -maxFix), free(0, 1)), -maxFix, -maxFix)
	contour(t, line(held(0, -maxFix), free(-1, 1)), []int(nil)...)
	contour(t, line(held(-1, maxFix-1), free(-1, 1), free(-9, 1)), maxFix-1, maxFix-1, maxFix-9)
	contour(t, line(held(-1, maxFix), free(-9, 1)), []int(nil)...)
	contour(t, line(held(1, 1-maxFix), free(9, 1)), 1-maxFix, 9-maxFix)
	contour(t, line(held(1, -maxFix), free(9, 1)), []int(nil)...)
	contour(t, line(held(-maxFix, maxFix), free(-maxFix, 1)), []int(nil)...)
	contour(t, line(held(maxFix, -maxFix), free(maxFix, 1)), []int(nil)...)
	contour(t, line(held(-maxFix, 0), free(0, 1), free(-maxFix, 3)), 0, maxFix, 0)
	contour(t, line(held(-maxFix, 0), free(1, 1)), []int(nil)...)
	contour(t, line(held(maxFix, 0), free(0, 1)), 0, -maxFix)
	contour(t, line(held(maxFix, 0), free(-1, 1)), []int(nil)...)
	contour(t, line(held(5, 6), free(maxFix-1, 0)), 6, maxFix)
	contour(t, line(held(5, 6), free(maxFix, 0)), []int(nil)...)
	contour(t, line(held(5, 4), free(1-maxFix, 0)), 4, -maxFix)
	contour(t, line(held(5, 4), free(-maxFix, 0)), []int(nil)...)
	// The lesser one's, and the greater one's, of two.
	for _, turn := range []func(points []point) []point{func(points []point) []point { return points }, func(points []point) []point {
		out := slices.Clone(points)
		slices.Reverse(out)
		return out
	}} {
		contour(t, turn(line(held(-1, maxFix-1), free(-1, 0), held(maxFix, 7))), turnedInts(turn, maxFix-1, maxFix-1, 7)...)
		contour(t, turn(line(held(-1, maxFix), free(-1, 0), held(maxFix, 7))), []int(nil)...)
		contour(t, turn(line(held(-1, maxFix), free(-maxFix, 0), held(maxFix, 7))), []int(nil)...)
		contour(t, turn(line(held(0, maxFix), free(0, 0), free(-4, 0), held(9, 7), free(9, 0), free(11, 0))), turnedInts(turn, maxFix, maxFix, maxFix-4, 7, 7, 9)...)
		contour(t, turn(line(held(-4, 0), free(11, 0), held(9, 9-maxFix))), turnedInts(turn, 0, 11-maxFix, 9-maxFix)...)
		contour(t, turn(line(held(-4, 0), free(11, 0), held(9, 8-maxFix))), []int(nil)...)
		contour(t, turn(line(held(-4, 0), free(11, 0), held(1, -maxFix))), []int(nil)...)
		contour(t, turn(line(held(-4, 0), free(maxFix-6, 0), held(1, 7))), turnedInts(turn, 0, maxFix, 7)...)
		contour(t, turn(line(held(-4, 0), free(maxFix-5, 0), held(1, 7))), []int(nil)...)
		contour(t, turn(line(held(1, -5), free(6-maxFix, 0), held(4, 0))), turnedInts(turn, -5, -maxFix, 0)...)
		contour(t, turn(line(held(1, -5), free(5-maxFix, 0), held(4, 0))), []int(nil)...)
	}
}

// turnedInts: the numbers in the order in which the points are turned.
func turnedInts(turn func([]point) []point, numbers ...int) []int {
	var points []point
	for _, n := range numbers {
		points = append(points, free(n, n))
	}
	var out []int
	for _, p := range turn(points) {
		out = append(out, p.org)
	}
	return out
}

// P9.4: between two, the differences at both ends of FIX and one beyond.
func TestSmoothDifferenceFix(t *testing.T) {
	for _, c := range []struct {
		low, high, org, want int
		fault                bool
		cur0, cur1           int
	}{
		{low: 0, high: maxFix, cur0: 5, cur1: 6, org: maxFix - 1, want: 6}, {low: -1, high: maxFix - 1, cur0: 5, cur1: 6, org: 0, want: 5},
		{low: -1, high: maxFix, cur0: 5, cur1: 6, org: 0, fault: true}, {low: -1, high: maxFix, cur0: 5, cur1: 6, org: maxFix - 1, fault: true},
		{low: -maxFix, high: 0, cur0: 5, cur1: 6, org: -1, want: 6}, {low: -maxFix, high: 1, cur0: 5, cur1: 6, org: 1 - maxFix, fault: true},
		{low: -maxFix, high: maxFix, cur0: 5, cur1: 6, org: 0, fault: true}, {low: -maxFix, high: maxFix, cur0: 5, cur1: 5, org: 1, fault: true},
		{low: 0, high: 2, cur0: 0, cur1: maxFix, org: 1, want: 1 << 30}, {low: 0, high: 2, cur0: -1, cur1: maxFix - 1, org: 1, want: 1<<30 - 1},
		{low: 0, high: 2, cur0: -1, cur1: maxFix, org: 1, fault: true}, {low: 0, high: 2, cur0: maxFix, cur1: 0, org: 1, want: 1<<30 - 1},
		{low: 0, high: 2, cur0: maxFix, cur1: -1, org: 1, fault: true}, {low: 0, high: 2, cur0: 0, cur1: -maxFix, org: 1, want: -1 << 30},
		{low: 0, high: 2, cur0: 1, cur1: -maxFix, org: 1, fault: true}, {low: 0, high: 2, cur0: -maxFix, cur1: maxFix, org: 1, fault: true},
		{low: 0, high: 2, cur0: maxFix, cur1: -maxFix, org: 1, fault: true},
		// The moves are no FIX, and aren't needed.
		{low: -maxFix, high: 10 - maxFix, cur0: maxFix, cur1: maxFix - 5, org: 5 - maxFix, want: maxFix - 3},
		{low: maxFix - 10, high: maxFix, cur0: -maxFix, cur1: 5 - maxFix, org: maxFix - 5, want: 3 - maxFix},
		{low: 1, high: maxFix, cur0: -maxFix, cur1: -1, org: 2, want: 1 - maxFix},
	} {
		a, b, p := held(c.low, c.cur0), held(c.high, c.cur1), free(c.org, 0)
		if c.fault {
			contour(t, line(a, p, b), []int(nil)...)
			contour(t, line(b, p, a), []int(nil)...)
			continue
		}
		contour(t, line(a, p, b), c.cur0, c.want, c.cur1)
		contour(t, line(b, p, a), c.cur1, c.want, c.cur0)
	}
}

// P9.4: what no untouched point needs isn't reckoned.
func TestSmoothNotNeeded(t *testing.T) {
	// Differences of two without a point between; a move where all points are on the other one's side.
	contour(t, line(held(-maxFix, maxFix), held(maxFix, -maxFix)), maxFix, -maxFix)
	contour(t, line(held(-maxFix, maxFix), held(maxFix, -maxFix), held(0, 4), free(maxFix, 0), held(maxFix, 9)), maxFix, -maxFix, 4, 9, 9)
	contour(t, line(held(-maxFix, maxFix), free(7, 0), held(5, 5)), maxFix, 7, 5)
	contour(t, line(held(maxFix, -maxFix), free(4, 0), held(5, 8)), -maxFix, 7, 8)
	contour(t, line(held(5, 5), free(7, 0), held(-maxFix, maxFix), free(5, 0), free(6, 0)), 5, 7, maxFix, 5, 6)
	// Of equal ones that of the other side.
	contour(t, line(held(-5, maxFix), free(-4, 0), held(-5, 6)), maxFix, 7, 6)
	contour(t, line(held(-5, 6), free(-5, 0), held(-5, maxFix)), 6, 6, maxFix)
	contour(t, line(held(-5, maxFix), free(-5, 0), held(-5, 6)), []int(nil)...)
	contour(t, line(held(-5, 6), free(-4, 0), held(-5, maxFix)), []int(nil)...)
	// In other contours and behind them.
	smooth(t, []int{1, 2}, line(held(0, 1), free(5, 5), held(-maxFix, maxFix), held(maxFix, -maxFix), free(3, 3)), 1, 6, maxFix, -maxFix, 3)
}

// P9.4: one fault refuses all, also where it stands only in the last untouched point of the last contour.
func TestSmoothLastFault(t *testing.T) {
	for _, c := range [][2]point{{held(0, maxFix), free(1, 1)}, {held(0, -maxFix), free(-1, 1)}, {held(-1, maxFix), free(-2, 1)}} {
		smooth(t, []int{3}, line(c[0], free(0, 0), free(0, 5), c[1]))
		smooth(t, []int{3}, line(c[0], c[1], free(0, 0), free(0, 5)))
		smooth(t, []int{2, 6}, line(held(0, 10), free(0, 0), held(9, 9), free(0, 0), c[0], free(0, 0), c[1]))
		smooth(t, []int{3, 6}, line(free(0, 0), c[0], free(0, 0), c[1], held(0, 10), free(0, 0), held(9, 9)))
		smooth(t, []int{0, 1, 4, 6}, line(held(1, 2), free(3, 4), held(-maxFix, 3), held(maxFix, 3), held(7, 7), c[0], c[1]))
		smooth(t, []int{1}, line(c[0], c[1], free(4, 4), held(3, 3)))
		smooth(t, []int{0, 1, 3}, line(free(1, 2), held(3, 4), c[0], c[1]))
	}
}

// P9.4: ErrZone for an axis that is none and a zone that isn't sound, also where something would be no FIX.
func TestSmoothZone(t *testing.T) {
	fine, fault := along(0, []int{1}, line(held(0, 1), free(5, 5))), along(0, []int{1}, line(held(0, maxFix), free(5, 5)))
	for _, axis := range noAxis() {
		smoothed(t, fine, axis, api.Zone{}, 91)
		smoothed(t, fault, axis, api.Zone{}, 91)
		smoothed(t, api.Zone{}, axis, api.Zone{}, 91)
	}
	smoothed(t, fault, 0, api.Zone{}, 94)
	for axis := -1; axis < 3; axis++ {
		smoothed(t, ended(fault, 1, 1), axis, api.Zone{}, 91)
		smoothed(t, ended(fault, 1, 2), axis, api.Zone{}, 91)
		smoothed(t, ended(fine, 1, 0), axis, api.Zone{}, 91)
		smoothed(t, filled(4097), axis, api.Zone{}, 91)
	}
}

// P1: as many points as may be, in one contour, in as many, with few and many touched.
func TestSmoothMost(t *testing.T) {
	all := make([]int, 4096)
	for i := range all {
		all[i] = i
	}
	for _, every := range []int{1, 2, 3, 100, 4096, 5000} {
		z := filled(4096)
		for p := range 4096 {
			z.Org[p], z.Cur[p] = at(p*7%1000, -p), at(p*3%500, p*p%4000)
			z.TouchX[p], z.TouchY[p] = p%every == every-1, p%every == 0
		}
		for _, ends := range [][]int{{4095}, {4094}, {2047, 4095}, all} {
			for axis := range 2 {
				got, e := gstate.Smooth(ended(z, ends...), axis)
				if len(ends) == 1 && every > 3 {
					// The model goes to and fro from each point: long ways make it slow.
					if e != 0 || len(got.Cur) != 4096 {
						t.Error(every, axis, e)
					}
					continue
				}
				right, want := smoothModel(ended(z, ends...), axis)
				judged(t, fmt.Sprint(every, len(ends), axis), got, e, right, want)
			}
		}
	}
}

// P9.4, P2: zones of all sorts beside a second reading; twice the same.
func TestSmoothRandom(t *testing.T) {
	r := rand.New(rand.NewSource(94))
	seen := map[api.Errno]int{}
	for range 30000 {
		z, axis := randomZone(r), r.Intn(2)
		if r.Intn(10) == 0 {
			z = spoilt(r, z)
		}
		if r.Intn(30) == 0 {
			axis = r.Intn(5) - 2
		}
		right, want := smoothModel(z, axis)
		smoothed(t, z, axis, right, want)
		smoothed(t, z, axis, right, want)
		seen[want]++
	}
	if seen[0] < 10000 || seen[91] < 1000 || seen[94] < 1000 {
		t.Error(seen)
	}
}

// P9.3, P9.4: points are put and smoothed by turns, as hinting does.
func TestByTurns(t *testing.T) {
	r := rand.New(rand.NewSource(95))
	for range 1500 {
		z := randomZone(r)
		for p := range z.Org {
			z.TouchX[p], z.TouchY[p] = false, false
		}
		for range 12 {
			axis := r.Intn(2)
			p, to := r.Intn(len(z.Org)+1), randomNumber(r)
			var next, right api.Zone
			var e, want api.Errno
			if r.Intn(3) == 0 {
				next, e = gstate.Smooth(z, axis)
				right, want = smoothModel(z, axis)
			} else {
				next, e = gstate.Put(z, axis, p, to)
				right, want = putModel(z, axis, p, to)
			}
			judged(t, fmt.Sprint(z, axis, p, to), next, e, right, want)
			if e == 0 {
				z = next
				if !gstate.Sound(z) {
					t.Fatal(z)
				}
			}
		}
	}
}
