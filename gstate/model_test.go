package gstate_test

import (
	"math"
	"math/big"
	"math/rand"
	"slices"
	"testing"

	"serif/api"
	"serif/gstate"
)

// The signatures of the chapter.
var (
	_ func(z api.Zone) bool                                      = gstate.Sound
	_ func(o [][]api.Knot) api.Zone                              = gstate.New
	_ func(z api.Zone, o [][]api.Knot) ([][]api.Knot, api.Errno) = gstate.Outline
	_ func(n, way int) int                                       = gstate.Round
	_ func(z api.Zone, axis, p, to int) (api.Zone, api.Errno)    = gstate.Put
	_ func(z api.Zone, axis int) (api.Zone, api.Errno)           = gstate.Smooth
	_ struct {
		Org, Cur       []api.Spot
		TouchX, TouchY []bool
		Ends           []int
	} = api.Zone{}
)

// maxFix: the greatest FIX, as the document has it.
const maxFix = 2147483647

// noFix: just beyond the ends of FIX, and further; some would be small in fewer bits.
func noFix() []int {
	return []int{maxFix + 1, -maxFix - 1, maxFix + 2, -maxFix - 2, 1 << 32, 1<<32 + 5, -1 << 32, 1 << 62, -1 << 62, math.MaxInt, math.MaxInt - 1, math.MinInt, math.MinInt + 1}
}

// noAxis: neither 0 nor 1; some would be in fewer bits.
func noAxis() []int {
	return []int{-1, 2, 3, -2, 256, 257, 1 << 32, 1<<32 + 1, -1 << 32, math.MaxInt, math.MinInt, math.MinInt + 1}
}

func at(x, y int) api.Spot { return api.Spot{X: x, Y: y} }

// outline: contours in a list.
func outline(contours ...[]api.Knot) [][]api.Knot { return contours }

// knot: of a kind.
func knot(x, y, kind int) api.Knot { return api.Knot{X: x, Y: y, Kind: kind} }

// row: a contour.
func row(list ...api.Knot) []api.Knot { return list }

// places: points.
func places(list ...api.Spot) []api.Spot { return list }

// filled: so many points, none touched, without contours.
func filled(n int) api.Zone {
	return api.Zone{Org: make([]api.Spot, n), Cur: make([]api.Spot, n), TouchX: make([]bool, n), TouchY: make([]bool, n)}
}

// ended: the zone with these ends.
func ended(z api.Zone, ends ...int) api.Zone {
	z.Ends = ends
	return z
}

// deep: the zone in memory of its own.
func deep(z api.Zone) api.Zone {
	return api.Zone{
		Org: append([]api.Spot{}, z.Org...), Cur: append([]api.Spot{}, z.Cur...),
		TouchX: append([]bool{}, z.TouchX...), TouchY: append([]bool{}, z.TouchY...), Ends: append([]int{}, z.Ends...),
	}
}

// same: are the zones the same? A list that is nil is an empty one.
func same(a, b api.Zone) bool {
	return slices.Equal(a.Org, b.Org) && slices.Equal(a.Cur, b.Cur) && slices.Equal(a.TouchX, b.TouchX) && slices.Equal(a.TouchY, b.TouchY) && slices.Equal(a.Ends, b.Ends)
}

// sameOutline: are the outlines the same?
func sameOutline(a, b [][]api.Knot) bool { return slices.EqualFunc(a, b, slices.Equal[[]api.Knot]) }

// judged: the answer is the zone and the error asked for.
func judged(t *testing.T, name string, z api.Zone, e api.Errno, right api.Zone, want api.Errno) {
	t.Helper()
	if e != want || !same(z, right) {
		t.Fatalf("%s: %v, %v; not %v, %v", name, z, e, right, want)
	}
}

// isFix: is it from -MaxFix to MaxFix?
func isFix(n *big.Int) bool { return n.CmpAbs(big.NewInt(maxFix)) <= 0 }

// ledger is a second reading's sums: each is looked at.
type ledger struct{ fault bool }

func (l *ledger) note(n *big.Int) *big.Int {
	l.fault = l.fault || !isFix(n)
	return n
}

func (l *ledger) plus(a, b *big.Int) *big.Int  { return l.note(new(big.Int).Add(a, b)) }
func (l *ledger) minus(a, b *big.Int) *big.Int { return l.note(new(big.Int).Sub(a, b)) }

// share: the nearest of a b by c, halves away from 0; c is above 0.
func (l *ledger) share(a, b, c *big.Int) *big.Int {
	twice := new(big.Int).Mul(a, b)
	sign := int64(twice.Sign())
	twice.Abs(twice).Lsh(twice, 1).Add(twice, c)
	twice.Quo(twice, new(big.Int).Lsh(c, 1))
	return l.note(twice.Mul(twice, big.NewInt(sign)))
}

// soundModel: what a sound zone is.
func soundModel(z api.Zone) bool {
	n := len(z.Org)
	for _, size := range []int{len(z.Cur), len(z.TouchX), len(z.TouchY)} {
		if size != n {
			return false
		}
	}
	for i, end := range z.Ends {
		if end < 0 || end > n-1 || i > 0 && end < z.Ends[i-1]+1 {
			return false
		}
	}
	for _, s := range slices.Concat(z.Org, z.Cur) {
		if !isFix(big.NewInt(int64(s.X))) || !isFix(big.NewInt(int64(s.Y))) {
			return false
		}
	}
	return n < 4097
}

// roundModel: what a way of rounding makes of n.
func roundModel(n, way int) int {
	switch {
	case n > maxFix || n < -maxFix:
		return 0
	case n < 0:
		return -roundModel(-n, way)
	case way == 0:
		return n + 32 - (n+32)%64
	case way == 1:
		return n - n%64 + 32
	case way == 2:
		return n + 16 - (n+16)%32
	case way == 3:
		return n - n%64
	case way == 4:
		return n + (64-n%64)%64
	}
	return n
}

// one: a coordinate.
func one(s api.Spot, axis int) *big.Int { return big.NewInt(int64([]int{s.X, s.Y}[axis])) }

// touched: is the point touched along the axis?
func touched(z api.Zone, axis, p int) bool { return [][]bool{z.TouchX, z.TouchY}[axis][p] }

// moved: a touched point's move.
func (l *ledger) moved(z api.Zone, axis, p int) *big.Int {
	return l.minus(one(z.Cur[p], axis), one(z.Org[p], axis))
}

// follow: where the point p of the contour from first to last goes, if it goes anywhere.
func (l *ledger) follow(z api.Zone, axis, first, last, p int) (*big.Int, bool) {
	count := 0
	for q := first; q <= last; q++ {
		if touched(z, axis, q) {
			count++
		}
	}
	if count == 0 || touched(z, axis, p) {
		return nil, false
	}
	a, b := p, p
	for !touched(z, axis, a) {
		if a--; a < first {
			a = last
		}
	}
	for !touched(z, axis, b) {
		if b++; b > last {
			b = first
		}
	}
	org := one(z.Org[p], axis)
	if count == 1 {
		return l.plus(org, l.moved(z, axis, a)), true
	}
	low, high := a, b
	if one(z.Org[a], axis).Cmp(one(z.Org[b], axis)) > 0 {
		low, high = b, a
	}
	lowOrg, highOrg := one(z.Org[low], axis), one(z.Org[high], axis)
	if org.Cmp(lowOrg) <= 0 {
		return l.plus(org, l.moved(z, axis, low)), true
	}
	if org.Cmp(highOrg) >= 0 {
		return l.plus(org, l.moved(z, axis, high)), true
	}
	lowCur, highCur := one(z.Cur[low], axis), one(z.Cur[high], axis)
	return l.plus(lowCur, l.share(l.minus(org, lowOrg), l.minus(highCur, lowCur), l.minus(highOrg, lowOrg))), true
}

// withCur: the zone with the point p elsewhere along the axis.
func withCur(z api.Zone, axis, p, to int) api.Zone {
	out := deep(z)
	if axis == 0 {
		out.Cur[p].X = to
	} else {
		out.Cur[p].Y = to
	}
	return out
}

// smoothModel: Smooth, point by point.
func smoothModel(z api.Zone, axis int) (api.Zone, api.Errno) {
	if !soundModel(z) || axis != 0 && axis != 1 {
		return api.Zone{}, 91
	}
	var l ledger
	out := deep(z)
	for i, last := range z.Ends {
		first := 0
		if i > 0 {
			first = z.Ends[i-1] + 1
		}
		for p := first; p <= last; p++ {
			if to, goes := l.follow(z, axis, first, last, p); goes {
				if axis == 0 {
					out.Cur[p].X = int(to.Int64())
				} else {
					out.Cur[p].Y = int(to.Int64())
				}
			}
		}
	}
	if l.fault {
		return api.Zone{}, 94
	}
	return out, 0
}

// putModel: Put.
func putModel(z api.Zone, axis, p, to int) (api.Zone, api.Errno) {
	if !soundModel(z) || axis != 0 && axis != 1 || p < 0 || p > len(z.Org)-1 {
		return api.Zone{}, 91
	}
	if !isFix(big.NewInt(int64(to))) {
		return api.Zone{}, 94
	}
	out := withCur(z, axis, p, to)
	[][]bool{out.TouchX, out.TouchY}[axis][p] = true
	return out, 0
}

// randomNumber: mostly small, so that places are often equal; at times at or beside the ends of FIX, or half-way there.
func randomNumber(r *rand.Rand) int {
	ends := []int{maxFix, maxFix - 1, maxFix - 2, 1 << 30, 1<<30 - 1, 1<<30 + 1, 0}
	n := r.Intn(6)
	switch r.Intn(40) {
	case 0, 1, 2:
		n = ends[r.Intn(len(ends))]
	case 3:
		n = r.Intn(maxFix)
	case 4, 5, 6, 7, 8, 9:
		n = r.Intn(300)
	}
	if r.Intn(2) == 0 {
		return -n
	}
	return n
}

// randomZone: a sound zone of a few contours, and points behind them.
func randomZone(r *rand.Rand) api.Zone {
	n := r.Intn(1 + r.Intn(24))
	z := filled(n)
	touches := r.Intn(5)
	for p := range n {
		z.Org[p] = at(randomNumber(r), randomNumber(r))
		z.Cur[p] = at(randomNumber(r), randomNumber(r))
		z.TouchX[p], z.TouchY[p] = r.Intn(5) < touches, r.Intn(5) < touches
		if r.Intn(6) == 0 {
			z.Ends = append(z.Ends, p)
		}
	}
	if n > 0 && r.Intn(3) > 0 && !slices.Contains(z.Ends, n-1) {
		z.Ends = append(z.Ends, n-1)
	}
	return z
}

// spoilt: a zone in which something is another; most often it isn't sound then.
func spoilt(r *rand.Rand, z api.Zone) api.Zone {
	out := deep(z)
	far := append(noFix(), maxFix, -maxFix)[r.Intn(15)]
	switch kind := r.Intn(9); {
	case kind == 0:
		out.Cur = append(out.Cur, at(0, 0))
	case kind == 1:
		out.Org = append(out.Org, at(0, 0))
	case kind == 2:
		out.TouchX = append(out.TouchX, false)
	case kind == 3:
		out.TouchY = append(out.TouchY, true)
	case kind == 4:
		out.Ends = append(out.Ends, r.Intn(len(out.Org)+2)-1)
	case kind == 5 && len(out.Ends) > 0:
		out.Ends[r.Intn(len(out.Ends))] += r.Intn(5) - 2
	case len(out.Org) > 0 && len(out.Cur) > 0:
		list := [][]api.Spot{out.Org, out.Cur}[r.Intn(2)]
		p := r.Intn(len(list))
		list[p] = []api.Spot{at(far, list[p].Y), at(list[p].X, far)}[r.Intn(2)]
	}
	return out
}
