package path_test

import (
	"math/big"
	"math/rand"
	"regexp"
	"slices"

	"serif/api"
	"serif/path"
)

// The signatures of the chapter.
var (
	_ func(o [][]api.Knot) (api.Box, bool)                            = path.Hull
	_ func(o [][]api.Knot, dx, dy int) ([][]api.Knot, api.Errno)      = path.Move
	_ func(o [][]api.Knot, m [4]int) ([][]api.Knot, api.Errno)        = path.Turn
	_ func(o [][]api.Knot, size, units int) ([][]api.Knot, api.Errno) = path.Resize
	_ func(o [][]api.Knot) ([][]api.Spot, api.Errno)                  = path.Flat
	_ func(p [][]api.Spot) (api.Box, bool)                            = path.Bounds
	_ struct{ X, Y, Kind int }                                        = api.Knot{}
	_ struct{ X, Y int }                                              = api.Spot{}
	_ struct{ X0, Y0, X1, Y1 int }                                    = api.Box{}
)

// maxFix: the greatest FIX, as the document has it.
const maxFix = 2147483647

func on(x, y int) api.Knot    { return api.Knot{X: x, Y: y, Kind: 1} }
func quad(x, y int) api.Knot  { return api.Knot{X: x, Y: y, Kind: 2} }
func cubic(x, y int) api.Knot { return api.Knot{X: x, Y: y, Kind: 3} }
func at(x, y int) api.Spot    { return api.Spot{X: x, Y: y} }

// outline: contours in a list.
func outline(contours ...[]api.Knot) [][]api.Knot { return contours }

// knots: a contour.
func knots(list ...api.Knot) []api.Knot { return list }

// spots: a polygon.
func spots(list ...api.Spot) []api.Spot { return list }

// same: are the lists of the same lists? One that is nil is an empty one.
func same[P comparable](a, b [][]P) bool { return slices.EqualFunc(a, b, slices.Equal[[]P]) }

// deep: a copy that shares nothing.
func deep[P any](lists [][]P) [][]P {
	var out [][]P
	for _, list := range lists {
		out = append(out, slices.Clone(list))
	}
	return out
}

// rat: n as a fraction.
func rat(n int) *big.Rat { return new(big.Rat).SetInt64(int64(n)) }

// away: the whole number nearest to r, halves away from 0.
func away(r *big.Rat) int {
	size := new(big.Rat).Abs(r)
	size.Add(size, big.NewRat(1, 2))
	q := new(big.Int).Quo(size.Num(), size.Denom())
	return r.Sign() * int(q.Int64())
}

// onCurve: the coordinate at i by n of a curve with these controls, taken together by two and two until one is left.
func onCurve(i, n int, controls ...int) int {
	var row []*big.Rat
	for _, c := range controls {
		row = append(row, rat(c))
	}
	t := big.NewRat(int64(i), int64(n))
	for len(row) > 1 {
		for k := range len(row) - 1 {
			step := new(big.Rat).Sub(row[k+1], row[k])
			row[k] = new(big.Rat).Add(row[k], step.Mul(step, t))
		}
		row = row[:len(row)-1]
	}
	return away(row[0])
}

// pieces: how many points a curve with that d has.
func pieces(d *big.Int) int {
	for _, n := range []int64{1, 2, 4, 8} {
		if d.Cmp(big.NewInt(4*n*n)) <= 0 {
			return int(n)
		}
	}
	return 16
}

// bentBy: the sum of all |p - 2 q + r| of three controls one behind the other.
func bentBy(controls []int) *big.Int {
	sum := new(big.Int)
	for k := range len(controls) - 2 {
		sum.Add(sum, new(big.Int).Abs(big.NewInt(int64(controls[k])-2*int64(controls[k+1])+int64(controls[k+2]))))
	}
	return sum
}

// curveModel: the points of a curve from the first of the places to the last.
func curveModel(places ...api.Spot) []api.Spot {
	var xs, ys []int
	for _, p := range places {
		xs, ys = append(xs, p.X), append(ys, p.Y)
	}
	n := pieces(new(big.Int).Add(bentBy(xs), bentBy(ys)))
	var out []api.Spot
	for i := 1; i <= n; i++ {
		out = append(out, at(onCurve(i, n, xs...), onCurve(i, n, ys...)))
	}
	return out
}

// halfway: the middle of two.
func halfway(a, b api.Knot) api.Knot {
	return on(onCurve(1, 2, a.X, b.X), onCurve(1, 2, a.Y, b.Y))
}

// The lines and curves of a contour in which every curve ends at a knot on it: o, q and c stand for the kinds.
var (
	legs  = regexp.MustCompile(`o|qo|cco`)
	whole = regexp.MustCompile(`^o(o|qo|cco)*$`)
)

// spelt: the knots with a middle put in between any two quad ones, from the start on and back to it if the last isn't on the curve; and whether it is put in at the end.
func spelt(contour []api.Knot) (ring []api.Knot, back bool) {
	first := slices.IndexFunc(contour, func(k api.Knot) bool { return k.Kind == 1 })
	if first >= 0 {
		ring = slices.Concat(contour[first:], contour[:first])
	} else {
		ring = slices.Concat(knots(halfway(contour[len(contour)-1], contour[0])), contour)
	}
	if ring[len(ring)-1].Kind != 1 {
		ring, back = append(ring, ring[0]), true
	}
	var out []api.Knot
	for i, k := range ring {
		if i > 0 && k.Kind == 2 && ring[i-1].Kind == 2 {
			out = append(out, halfway(ring[i-1], k))
		}
		out = append(out, k)
	}
	return out, back
}

// polygonModel: a contour's polygon; false, if it makes no curves.
func polygonModel(contour []api.Knot) ([]api.Spot, bool) {
	if len(contour) == 0 {
		return nil, true
	}
	noneOn := !slices.ContainsFunc(contour, func(k api.Knot) bool { return k.Kind == 1 })
	if noneOn && contour[0].Kind == 3 {
		return nil, false
	}
	ring, back := spelt(contour)
	text := ""
	var places []api.Spot
	for _, k := range ring {
		text += "-oqc"[k.Kind : k.Kind+1]
		places = append(places, at(k.X, k.Y))
	}
	if !whole.MatchString(text) {
		return nil, false
	}
	out := places[:1:1]
	for _, leg := range legs.FindAllStringIndex(text, -1)[1:] {
		if leg[1]-leg[0] == 1 {
			out = append(out, places[leg[0]])
			continue
		}
		out = append(out, curveModel(places[leg[0]-1:leg[1]]...)...)
	}
	if back {
		out = out[:len(out)-1]
	}
	return out, true
}

// flatModel: Flat of an outline that is within the limits, of the three kinds and of FIX.
func flatModel(o [][]api.Knot) ([][]api.Spot, api.Errno) {
	var out [][]api.Spot
	for _, contour := range o {
		p, ok := polygonModel(contour)
		if !ok {
			return nil, 61
		}
		out = append(out, p)
	}
	return out, 0
}

// spread: a number of up to so many bits, below 0 as often as above.
func spread(r *rand.Rand, bits int) int {
	n := r.Intn(1 << (1 + r.Intn(bits)))
	if r.Intn(2) == 0 {
		return -n
	}
	return n
}

// randomPlace: a place of an outline; small ones and those at the ends of FIX among them.
func randomPlace(r *rand.Rand) (int, int) {
	ends := []int{maxFix, -maxFix, maxFix - 1, 1 - maxFix, 0, 1, -1}
	if r.Intn(12) == 0 {
		return ends[r.Intn(len(ends))], ends[r.Intn(len(ends))]
	}
	bits := []int{3, 5, 8, 12, 30}[r.Intn(5)]
	return spread(r, bits), spread(r, bits)
}

// randomContour: knots, most of which make curves; some don't.
func randomContour(r *rand.Rand) []api.Knot {
	var kinds []int
	for range r.Intn(6) {
		kinds = append(kinds, [][]int{{1}, {2}, {2, 1}, {3, 3, 1}, {2, 2}, {1, 1}}[r.Intn(6)]...)
	}
	if len(kinds) > 0 && r.Intn(6) == 0 {
		kinds[r.Intn(len(kinds))] = 1 + r.Intn(3)
	}
	var out []api.Knot
	for _, k := range kinds {
		x, y := randomPlace(r)
		out = append(out, api.Knot{X: x, Y: y, Kind: k})
	}
	if n := len(out); n > 0 {
		turn := r.Intn(n)
		out = slices.Concat(out[turn:], out[:turn])
	}
	return out
}

// randomOutline: some contours.
func randomOutline(r *rand.Rand) [][]api.Knot {
	var out [][]api.Knot
	for range r.Intn(4) {
		out = append(out, randomContour(r))
	}
	return out
}
