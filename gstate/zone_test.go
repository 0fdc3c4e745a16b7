package gstate_test

import (
	"fmt"
	"math"
	"math/rand"
	"slices"
	"testing"

	"serif/api"
	"serif/gstate"
)

// sound: whether the zone is sound; one that isn't is refused by all calls that take a zone, whatever else is right or wrong.
func sound(t *testing.T, name string, z api.Zone, want bool) {
	t.Helper()
	before := deep(z)
	if got := gstate.Sound(z); got != want {
		t.Errorf("%s: Sound is %v", name, got)
	}
	fault := api.Errno(91)
	if want {
		fault = 0
	}
	for axis := range 2 {
		if out, e := gstate.Smooth(z, axis); e != fault || e != 0 && !same(out, api.Zone{}) {
			t.Errorf("%s: Smooth along %d answers %v", name, axis, e)
		}
		if out, e := gstate.Put(z, axis, 0, 7); len(z.Org) > 0 && (e != fault || e != 0 && !same(out, api.Zone{})) {
			t.Errorf("%s: Put along %d answers %v", name, axis, e)
		}
		if out, e := gstate.Put(z, axis, 0, maxFix+1); !want && (e != fault || !same(out, api.Zone{})) {
			t.Errorf("%s: Put of no FIX along %d answers %v", name, axis, e)
		}
	}
	for _, n := range []int{len(z.Org), len(z.Cur)} {
		if o, e := gstate.Outline(z, outline(make([]api.Knot, n))); e != fault || e != 0 && len(o) > 0 {
			t.Errorf("%s: Outline of %d knots answers %v", name, n, e)
		}
	}
	if !same(z, before) {
		t.Errorf("%s: the zone is changed", name)
	}
}

// Types: Cur, TouchX and TouchY are as long as Org.
func TestSoundLengths(t *testing.T) {
	sound(t, "no lists", api.Zone{}, true)
	sound(t, "empty lists", api.Zone{Org: []api.Spot{}, Cur: []api.Spot{}, TouchX: []bool{}, TouchY: []bool{}, Ends: []int{}}, true)
	for _, n := range []int{0, 1, 2, 5, 4095, 4096} {
		sound(t, fmt.Sprint(n, " points"), filled(n), true)
		for _, other := range []int{0, n - 1, n + 1, 2*n + 3} {
			if other == n || other < 0 {
				continue
			}
			name := fmt.Sprint(n, " points and ", other)
			for _, change := range []func(z *api.Zone){
				func(z *api.Zone) { z.Org = make([]api.Spot, other) },
				func(z *api.Zone) { z.Cur = make([]api.Spot, other) },
				func(z *api.Zone) { z.TouchX = make([]bool, other) },
				func(z *api.Zone) { z.TouchY = make([]bool, other) },
				func(z *api.Zone) { z.TouchX, z.TouchY = make([]bool, other), make([]bool, other) },
				func(z *api.Zone) { z.Org, z.Cur = make([]api.Spot, other), make([]api.Spot, other) },
			} {
				z := filled(n)
				change(&z)
				sound(t, name, z, false)
			}
		}
	}
}

// Types: Org has at most MaxPoints points.
func TestSoundMany(t *testing.T) {
	for _, n := range []int{4097, 4098, 5000, 8192, 65536} {
		sound(t, fmt.Sprint(n, " points"), filled(n), false)
		sound(t, fmt.Sprint(n, " points"), ended(filled(n), n-1), false)
		sound(t, fmt.Sprint(n, " points"), ended(filled(n), 4095), false)
	}
	sound(t, "most points", ended(filled(4096), 4095), true)
	all := make([]int, 4096)
	for i := range all {
		all[i] = i
	}
	sound(t, "most contours", ended(filled(4096), all...), true)
	sound(t, "one contour more", ended(filled(4096), append(all, 4096)...), false)
	sound(t, "the last one twice", ended(filled(4096), append(all, 4095)...), false)
}

// Types: the Ends rise, from 0 on, below the number of points.
func TestSoundEnds(t *testing.T) {
	for _, c := range []struct {
		n    int
		want bool
		ends [][]int
	}{
		{0, true, [][]int{nil, {}}},
		{0, false, [][]int{{0}, {-1}, {1}, {-1, 0}, {0, 1}}},
		{1, true, [][]int{nil, {0}}},
		{1, false, [][]int{{1}, {-1}, {0, 0}, {-1, 0}, {0, 1}, {0, -1}}},
		{5, true, [][]int{nil, {0}, {2}, {4}, {0, 4}, {3, 4}, {0, 1}, {0, 2, 3}, {1, 2, 3, 4}, {0, 1, 2, 3, 4}}},
		{5, false, [][]int{{5}, {6}, {-1}, {-2}, {4, 5}, {0, 5}, {2, 6}, {-1, 4}, {-1, 0, 4}, {2, 2}, {0, 0}, {4, 4}, {0, 0, 4}, {0, 3, 3}, {1, 1, 3}, {1, 3, 3, 4}}},
		{5, false, [][]int{{2, 1}, {4, 0}, {1, 4, 2}, {3, 1, 4}, {0, 2, 1}, {4, 3, 2, 1, 0}, {2, -1}, {0, -1, 4}, {0, 5, 4}, {5, 4}, {0, 1, 2, 3, 4, 5}, {0, 1, 2, 3, 4, 4}}},
		{5, false, [][]int{{math.MaxInt}, {math.MinInt}, {1, math.MaxInt}, {math.MinInt, 1}, {1 << 32}, {1<<32 + 1}, {0, 1<<32 + 1}, {-1 << 32}, {-1<<32 + 4}, {256}, {0, 257}, {math.MinInt + 1}}},
	} {
		for _, ends := range c.ends {
			sound(t, fmt.Sprint(c.n, " points, ends ", ends), ended(filled(c.n), ends...), c.want)
		}
	}
}

// Types: all coordinates are FIX, in Org and in Cur, of either axis, of contours and behind them.
func TestSoundFix(t *testing.T) {
	for _, n := range append(noFix(), maxFix, -maxFix, maxFix-1, 1-maxFix, 0) {
		want := n >= -maxFix && n <= maxFix
		for _, p := range []int{0, 2, 4} {
			for _, ends := range [][]int{nil, {1}, {4}, {0, 2, 4}} {
				for i, s := range []api.Spot{at(n, 0), at(0, n), at(n, n)} {
					org, cur := ended(filled(5), ends...), ended(filled(5), ends...)
					org.Org[p], cur.Cur[p] = s, s
					name := fmt.Sprintf("%d at point %d (%d), ends %v", n, p, i, ends)
					sound(t, name+", Org", org, want)
					sound(t, name+", Cur", cur, want)
				}
			}
		}
		z := filled(1)
		z.Org[0], z.Cur[0] = at(n, n), at(n, n)
		sound(t, fmt.Sprint(n, " alone"), z, want)
	}
}

// newZone: New of an outline, which is left as it was.
func newZone(t *testing.T, o [][]api.Knot, right api.Zone) {
	t.Helper()
	var before [][]api.Knot
	for _, contour := range o {
		before = append(before, slices.Clone(contour))
	}
	if z := gstate.New(o); !same(z, right) {
		t.Errorf("New of %v: %v", o, z)
	}
	if !sameOutline(o, before) {
		t.Errorf("New of %v: it is changed", before)
	}
}

// zoneAt: an untouched zone with its points there.
func zoneAt(spots []api.Spot, ends ...int) api.Zone {
	return api.Zone{Org: spots, Cur: spots, TouchX: make([]bool, len(spots)), TouchY: make([]bool, len(spots)), Ends: ends}
}

// P9.1 New: the knots' places, contour by contour; contours without knots have no end.
func TestNew(t *testing.T) {
	for _, o := range [][][]api.Knot{nil, {}, {nil}, {{}}, {nil, {}, nil}, make([][]api.Knot, 300)} {
		newZone(t, o, api.Zone{})
	}
	newZone(t, outline(row(knot(3, -4, 1))), zoneAt(places(at(3, -4)), 0))
	newZone(t, outline(row(knot(0, 0, 1))), zoneAt(places(at(0, 0)), 0))
	three := places(at(1, 2), at(3, 4), at(5, 6))
	a, b, c := knot(1, 2, 1), knot(3, 4, 2), knot(5, 6, 3)
	newZone(t, outline(row(a, b, c)), zoneAt(three, 2))
	newZone(t, outline(row(a), row(b, c)), zoneAt(three, 0, 2))
	newZone(t, outline(row(a, b), row(c)), zoneAt(three, 1, 2))
	newZone(t, outline(row(a), row(b), row(c)), zoneAt(three, 0, 1, 2))
	newZone(t, outline(nil, row(a, b), row(c)), zoneAt(three, 1, 2))
	newZone(t, outline(row(a, b), nil, nil, row(c)), zoneAt(three, 1, 2))
	newZone(t, outline(row(a, b), row(c), nil), zoneAt(three, 1, 2))
	newZone(t, outline(nil, row(), row(a), nil, row(b, c), row(), nil), zoneAt(three, 0, 2))
	newZone(t, outline(row(c, b, a)), zoneAt(places(at(5, 6), at(3, 4), at(1, 2)), 2))
	newZone(t, outline(row(a, a), row(a)), zoneAt(places(at(1, 2), at(1, 2), at(1, 2)), 1, 2))
}

// P9.1 New: any outline has a zone, of other kinds, of coordinates that are no FIX and of too many knots, too; then it isn't sound.
func TestNewAny(t *testing.T) {
	for _, kind := range []int{0, -1, 4, 1 << 32, math.MaxInt, math.MinInt} {
		newZone(t, outline(row(knot(7, 8, kind), knot(9, 10, 1))), zoneAt(places(at(7, 8), at(9, 10)), 1))
	}
	for _, n := range append(noFix(), maxFix, -maxFix) {
		newZone(t, outline(row(knot(n, 0, 1), knot(0, n, 2)), row(knot(n, n, 3))), zoneAt(places(at(n, 0), at(0, n), at(n, n)), 1, 2))
		if z := gstate.New(outline(row(knot(n, 0, 1)))); gstate.Sound(z) != (n >= -maxFix && n <= maxFix) {
			t.Error(z)
		}
	}
	for _, n := range []int{4095, 4096, 4097, 20000} {
		var contour []api.Knot
		var spots []api.Spot
		for i := range n {
			contour, spots = append(contour, knot(i, -i, 1+i%3)), append(spots, at(i, -i))
		}
		newZone(t, outline(contour), zoneAt(spots, n-1))
		newZone(t, outline(nil, contour[:n/2], nil, contour[n/2:]), zoneAt(spots, n/2-1, n-1))
		if gstate.Sound(gstate.New(outline(contour))) != (n <= 4096) {
			t.Error(n)
		}
	}
	var o [][]api.Knot
	var spots []api.Spot
	var ends []int
	for i := range 1000 {
		o, spots, ends = append(o, row(knot(i, i, 1)), nil), append(spots, at(i, i)), append(ends, i)
	}
	newZone(t, o, zoneAt(spots, ends...))
}

// made: Outline answers this outline, or ErrZone if that is nil; what is handed in is left.
func made(t *testing.T, z api.Zone, o [][]api.Knot, right [][]api.Knot) {
	t.Helper()
	want := api.Errno(0)
	if right == nil {
		want = 91
	}
	zone := deep(z)
	var before [][]api.Knot
	for _, contour := range o {
		before = append(before, slices.Clone(contour))
	}
	got, e := gstate.Outline(z, o)
	if e != want || !sameOutline(got, right) {
		t.Errorf("Outline of %v and %v: %v, %v; not %v, %v", z, o, got, e, right, want)
	}
	if !same(z, zone) || !sameOutline(o, before) {
		t.Errorf("Outline of %v and %v: they are changed", zone, before)
	}
}

// moved3: a zone of three points, which are elsewhere than they were.
func moved3(ends ...int) api.Zone {
	z := filled(3)
	z.Org = places(at(1, 2), at(3, 4), at(5, 6))
	z.Cur = places(at(10, -20), at(30, -40), at(maxFix, -maxFix))
	z.TouchX[1], z.TouchY[2] = true, true
	return ended(z, ends...)
}

// P9.1 Outline: the places are those of Cur, the kinds those of the knots, the contours those of the outline.
func TestOutline(t *testing.T) {
	far := knot(maxFix+1, math.MinInt, 77)
	for _, ends := range [][]int{nil, {2}, {0, 2}, {0, 1, 2}, {1}} {
		z := moved3(ends...)
		made(t, z, outline(row(knot(1, 2, 1), knot(3, 4, 2), knot(5, 6, 3))), outline(row(knot(10, -20, 1), knot(30, -40, 2), knot(maxFix, -maxFix, 3))))
		made(t, z, outline(row(knot(1, 2, 3)), row(knot(3, 4, 2), knot(5, 6, 1))), outline(row(knot(10, -20, 3)), row(knot(30, -40, 2), knot(maxFix, -maxFix, 1))))
		made(t, z, outline(nil, row(knot(0, 0, 2), knot(0, 0, 2)), row(), nil, row(knot(0, 0, 1)), nil), outline(nil, row(knot(10, -20, 2), knot(30, -40, 2)), nil, nil, row(knot(maxFix, -maxFix, 1)), nil))
		made(t, z, outline(row(knot(0, 0, 0)), row(knot(0, 0, -5)), row(far)), outline(row(knot(10, -20, 0)), row(knot(30, -40, -5)), row(knot(maxFix, -maxFix, 77))))
		for _, other := range [][][]api.Knot{
			nil, {nil}, {row()}, {row(far)}, {row(far, far)}, {row(far, far), nil}, {row(far), row(far)}, {row(far, far, far, far)}, {row(far, far, far), row(far)}, {row(far), row(far, far, far)},
			{row(far, far), row(far, far)}, {row(far), nil, row(far), nil, row(far), row(far)}, {make([]api.Knot, 4096)}, {make([]api.Knot, 4099)}, make([][]api.Knot, 3),
		} {
			made(t, z, other, nil)
		}
	}
}

// P9.1 Outline: a zone without points, one of one, and one of as many as may be.
func TestOutlineEdges(t *testing.T) {
	for _, o := range [][][]api.Knot{{}, {nil}, {row(), nil, row()}, make([][]api.Knot, 300)} {
		made(t, api.Zone{}, o, o)
	}
	if o, e := gstate.Outline(api.Zone{}, nil); e != 0 || len(o) != 0 {
		t.Error(o, e)
	}
	made(t, api.Zone{}, outline(row(knot(1, 2, 1))), nil)
	made(t, filled(1), outline(row(knot(1, 2, 1))), outline(row(knot(0, 0, 1))))
	made(t, filled(1), outline(nil, row()), nil)
	z := filled(4096)
	var from, to []api.Knot
	for i := range 4096 {
		z.Cur[i] = at(i, 5-i)
		from, to = append(from, knot(-i, i*i, i)), append(to, knot(i, 5-i, i))
	}
	made(t, z, outline(from), outline(to))
	made(t, z, outline(from[:4095], nil, from[4095:]), outline(to[:4095], nil, to[4095:]))
	made(t, z, outline(from[:4095]), nil)
	made(t, z, outline(from, from[:1]), nil)
	made(t, filled(4097), outline(make([]api.Knot, 4097)), nil)
}

// P9.1: a zone of an outline gives it back.
func TestThereAndBack(t *testing.T) {
	r := rand.New(rand.NewSource(91))
	for range 2000 {
		var o [][]api.Knot
		for range r.Intn(6) {
			var contour []api.Knot
			for range r.Intn(5) {
				contour = append(contour, knot(randomNumber(r), randomNumber(r), r.Intn(5)))
			}
			o = append(o, contour)
		}
		z := gstate.New(o)
		var spots []api.Spot
		var ends []int
		for _, k := range slices.Concat(o...) {
			spots = append(spots, at(k.X, k.Y))
		}
		for i := range o {
			if n := len(slices.Concat(o[:i+1]...)); len(o[i]) > 0 {
				ends = append(ends, n-1)
			}
		}
		if !same(z, zoneAt(spots, ends...)) || !gstate.Sound(z) {
			t.Fatal(o, z)
		}
		if len(o) > 0 {
			made(t, z, o, o)
		}
		for p := range z.Cur {
			z.Cur[p] = at(randomNumber(r), randomNumber(r))
		}
		back, e := gstate.Outline(z, o)
		p := 0
		for i, contour := range back {
			for j, k := range contour {
				if k != (knot(z.Cur[p].X, z.Cur[p].Y, o[i][j].Kind)) {
					t.Fatal(z, o, back)
				}
				p++
			}
		}
		if e != 0 || p != len(z.Cur) || len(back) != len(o) {
			t.Fatal(z, o, back, e)
		}
	}
}

// Zones of all sorts, sound and not: Sound beside a second reading.
func TestSoundRandom(t *testing.T) {
	r := rand.New(rand.NewSource(90))
	seen := [2]int{}
	for range 10000 {
		z := randomZone(r)
		for range r.Intn(3) {
			z = spoilt(r, z)
		}
		want := soundModel(z)
		if gstate.Sound(z) != want {
			t.Fatal(z, want)
		}
		if want {
			seen[1]++
		} else {
			seen[0]++
		}
	}
	if seen[0] < 2000 || seen[1] < 2000 {
		t.Error(seen)
	}
}
