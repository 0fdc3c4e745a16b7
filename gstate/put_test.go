package gstate_test

import (
	"fmt"
	"math"
	"math/rand"
	"testing"

	"serif/api"
	"serif/gstate"
)

// put: Put answers that zone and error, as the model has them too; the zone that is handed in is left.
func put(t *testing.T, z api.Zone, axis, p, to int, right api.Zone, want api.Errno) api.Zone {
	t.Helper()
	name := fmt.Sprint("Put of ", z, axis, p, to)
	before := deep(z)
	got, e := gstate.Put(z, axis, p, to)
	judged(t, name, got, e, right, want)
	model, e := putModel(z, axis, p, to)
	judged(t, "the model of "+name, model, e, right, want)
	if !same(z, before) {
		t.Errorf("%s: the zone is changed", name)
	}
	return got
}

// refused: Put answers the error, and a zone of nothing.
func refused(t *testing.T, z api.Zone, axis, p, to int, want api.Errno) {
	t.Helper()
	put(t, z, axis, p, to, api.Zone{}, want)
}

// four: a zone of four points with two contours, the last point behind them; some are touched.
func four() api.Zone {
	return api.Zone{
		Org: places(at(1, 2), at(3, 4), at(5, 6), at(7, 8)), Cur: places(at(10, 20), at(30, 40), at(50, 60), at(70, 80)),
		TouchX: []bool{false, true, false, false}, TouchY: []bool{false, true, true, false}, Ends: []int{0, 2},
	}
}

// P9.3: the point is at the coordinate along the axis and touched along it; all else is as it was.
func TestPut(t *testing.T) {
	right := four()
	right.Cur[0].X, right.TouchX[0] = -9, true
	put(t, four(), 0, 0, -9, right, 0)
	right = four()
	right.Cur[0].Y, right.TouchY[0] = -9, true
	put(t, four(), 1, 0, -9, right, 0)
	right = four()
	right.Cur[3].X, right.TouchX[3] = 0, true
	put(t, four(), 0, 3, 0, right, 0)
	right = four()
	right.Cur[3].Y, right.TouchY[3] = 0, true
	put(t, four(), 1, 3, 0, right, 0)
	right = four()
	right.Cur[1].Y = 41
	put(t, four(), 1, 1, 41, right, 0)
	// Where it is already it is touched, for all that.
	right = four()
	right.TouchX[2] = true
	put(t, four(), 0, 2, 50, right, 0)
}

// P9.3: a point put twice is where it was put last; along both axes it is touched along both, and each stays as it was put.
func TestPutTwice(t *testing.T) {
	z := put(t, zoneAt(places(at(1, 2), at(3, 4)), 1), 0, 1, 100, api.Zone{Org: places(at(1, 2), at(3, 4)), Cur: places(at(1, 2), at(100, 4)), TouchX: []bool{false, true}, TouchY: []bool{false, false}, Ends: []int{1}}, 0)
	z = put(t, z, 0, 1, -100, api.Zone{Org: places(at(1, 2), at(3, 4)), Cur: places(at(1, 2), at(-100, 4)), TouchX: []bool{false, true}, TouchY: []bool{false, false}, Ends: []int{1}}, 0)
	z = put(t, z, 1, 1, 55, api.Zone{Org: places(at(1, 2), at(3, 4)), Cur: places(at(1, 2), at(-100, 55)), TouchX: []bool{false, true}, TouchY: []bool{false, true}, Ends: []int{1}}, 0)
	z = put(t, z, 1, 0, 0, api.Zone{Org: places(at(1, 2), at(3, 4)), Cur: places(at(1, 0), at(-100, 55)), TouchX: []bool{false, true}, TouchY: []bool{true, true}, Ends: []int{1}}, 0)
	put(t, z, 0, 1, 3, api.Zone{Org: places(at(1, 2), at(3, 4)), Cur: places(at(1, 0), at(3, 55)), TouchX: []bool{false, true}, TouchY: []bool{true, true}, Ends: []int{1}}, 0)
}

// P9.3: to both ends of FIX, and beyond.
func TestPutFix(t *testing.T) {
	for _, to := range []int{maxFix, -maxFix, maxFix - 1, 1 - maxFix} {
		for p := range 4 {
			right := four()
			right.Cur[p].X, right.TouchX[p] = to, true
			put(t, four(), 0, p, to, right, 0)
			right = four()
			right.Cur[p].Y, right.TouchY[p] = to, true
			put(t, four(), 1, p, to, right, 0)
		}
	}
	for _, to := range noFix() {
		for p := range 4 {
			refused(t, four(), 0, p, to, 94)
			refused(t, four(), 1, p, to, 94)
		}
	}
}

// farPoints: no points of a zone of n.
func farPoints(n int) []int {
	return []int{-1, n, n + 1, -n - 1, 4096, math.MaxInt, math.MinInt, math.MinInt + 1, 1 << 32, -1 << 32, 1<<32 + 1}
}

// P9.3: a point that isn't there, an axis that is none; also beside a coordinate that is no FIX.
func TestPutNothing(t *testing.T) {
	for _, to := range []int{0, maxFix, maxFix + 1, math.MinInt} {
		for axis := range 2 {
			for _, p := range farPoints(4) {
				refused(t, four(), axis, p, to, 91)
			}
			for _, p := range append(farPoints(1), 1) {
				refused(t, filled(1), axis, p, to, 91)
			}
			for _, p := range append(farPoints(0), 0) {
				refused(t, api.Zone{}, axis, p, to, 91)
			}
		}
		for _, axis := range noAxis() {
			for _, p := range append(farPoints(4), 0, 1, 3) {
				refused(t, four(), axis, p, to, 91)
			}
			refused(t, api.Zone{}, axis, 0, to, 91)
		}
		unsound := four()
		unsound.Ends = []int{2, 2}
		refused(t, unsound, 0, 0, to, 91)
		refused(t, unsound, 2, 0, to, 91)
		refused(t, unsound, 1, 4, to, 91)
	}
}

// P9.3: in zones of one point, of as many as may be, and without contours.
func TestPutEdges(t *testing.T) {
	one := filled(1)
	one.Cur[0].Y, one.TouchY[0] = 7, true
	put(t, filled(1), 1, 0, 7, one, 0)
	put(t, ended(filled(1), 0), 1, 0, 7, ended(one, 0), 0)
	for _, p := range []int{0, 1, 2047, 4094, 4095} {
		right := ended(filled(4096), 4000)
		right.Cur[p].X, right.TouchX[p] = -1, true
		put(t, ended(filled(4096), 4000), 0, p, -1, right, 0)
	}
	refused(t, filled(4096), 0, 4096, 1, 91)
	refused(t, filled(4097), 0, 0, 1, 91)
	refused(t, filled(4097), 0, 4096, 1, 91)
}

// P9.3, P2: zones and points of all sorts beside a second reading; twice the same.
func TestPutRandom(t *testing.T) {
	r := rand.New(rand.NewSource(93))
	seen := map[api.Errno]int{}
	for range 8000 {
		z := randomZone(r)
		if r.Intn(8) == 0 {
			z = spoilt(r, z)
		}
		axis, p, to := r.Intn(2), r.Intn(len(z.Org)+1), randomNumber(r)
		switch r.Intn(12) {
		case 0:
			axis = r.Intn(5) - 2
		case 1:
			p = r.Intn(len(z.Org)+5) - 2
		case 2:
			to = noFix()[r.Intn(13)]
		}
		right, want := putModel(z, axis, p, to)
		put(t, z, axis, p, to, right, want)
		put(t, z, axis, p, to, right, want)
		seen[want]++
	}
	if seen[0] < 2000 || seen[91] < 500 || seen[94] < 200 {
		t.Error(seen)
	}
}
