package metric_test

import (
	"math"
	"math/big"
	"math/rand"
	"reflect"
	"slices"
	"testing"

	"serif/api"
	"serif/metric"
)

// ends: numbers that are wrong nearly everywhere.
func ends() []int {
	return []int{math.MinInt, math.MinInt + 1, -1 << 32, -1 << 31, -4097, -2, -1, 1 << 31, 1 << 32, math.MaxInt - 1, math.MaxInt}
}

// three: metrics of three glyphs.
func three() api.Metrics {
	return api.Metrics{Kind: 1, Units: 1000, Glyphs: 3, Advances: []int{500, 600, 700}, Bearings: []int{1, 2, 3}, Places: []int{0, 10, 10, 36}}
}

// advance: Advance answers this.
func advance(t *testing.T, m api.Metrics, g, want int, wantE api.Errno) {
	t.Helper()
	if n, e := metric.Advance(m, g); n != want || e != wantE {
		t.Errorf("Advance of %d of %d glyphs, %d advances: %d, %v; not %d, %v", g, m.Glyphs, len(m.Advances), n, e, want, wantE)
	}
}

// place: Place answers this.
func place(t *testing.T, m api.Metrics, g, wantAt, wantN int, wantE api.Errno) {
	t.Helper()
	if at, n, e := metric.Place(m, g); at != wantAt || n != wantN || e != wantE {
		t.Errorf("Place of %d of %d glyphs, %d advances, %v: %d, %d, %v; not %d, %d, %v", g, m.Glyphs, len(m.Advances), m.Places, at, n, e, wantAt, wantN, wantE)
	}
}

// P4.2: the glyphs of a font, and those it hasn't.
func TestGlyphs(t *testing.T) {
	m := three()
	for g, n := range []int{500, 600, 700} {
		advance(t, m, g, n, 0)
	}
	place(t, m, 0, 0, 10, 0)
	place(t, m, 1, 10, 0, 0)
	place(t, m, 2, 10, 26, 0)
	for _, g := range append(ends(), 3, 4) {
		advance(t, m, g, 0, 45)
		place(t, m, g, 0, 0, 45)
	}
	m.Places = nil
	for g := range 3 {
		place(t, m, g, 0, 0, 0)
	}
	m.Places = []int{}
	place(t, m, 2, 0, 0, 0)
	place(t, m, 3, 0, 0, 45)
	place(t, m, -1, 0, 0, 45)
}

// P4.2: metrics that Read answers.
func TestGlyphsOfFonts(t *testing.T) {
	for name, s := range kinds() {
		m, e := metric.Read(s.open(t))
		if e != 0 {
			t.Fatal(name, e)
		}
		for g, n := range []int{500, 501, 501} {
			advance(t, m, g, n, 0)
			if s.kind == 1 {
				place(t, m, g, 4*g, 4, 0)
			} else {
				place(t, m, g, 0, 0, 0)
			}
		}
		advance(t, m, 3, 0, 45)
		place(t, m, 3, 0, 0, 45)
	}
	m, _ := metric.Read(right(1, 4096, 1, 1).open(t))
	advance(t, m, 4095, 500, 0)
	advance(t, m, 4096, 0, 45)
	place(t, m, 4095, 16380, 4, 0)
	place(t, m, 4096, 0, 0, 45)
}

// P4.2: metrics that no font has.
func TestNoFontsMetrics(t *testing.T) {
	advance(t, api.Metrics{}, 0, 0, 45)
	place(t, api.Metrics{}, 0, 0, 0, 45)
	// Fewer advances than glyphs are wrong even for a glyph that has one; more are not.
	for n := range 6 {
		m := three()
		m.Advances = slices.Repeat([]int{9}, n)
		for g := range 3 {
			if n < 3 {
				advance(t, m, g, 0, 45)
				place(t, m, g, 0, 0, 45)
			} else {
				advance(t, m, g, 9, 0)
				place(t, m, g, m.Places[g], m.Places[g+1]-m.Places[g], 0)
			}
		}
		advance(t, m, 3, 0, 45)
		place(t, m, 3, 0, 0, 45)
	}
	// Another number of places is wrong for Place alone.
	for n := 1; n < 8; n++ {
		m := three()
		m.Places = slices.Repeat([]int{7}, n)
		for g := range 3 {
			advance(t, m, g, 500+100*g, 0)
			if n == 4 {
				place(t, m, g, 7, 0, 0)
			} else {
				place(t, m, g, 0, 0, 45)
			}
		}
	}
	// Without places, fewer advances are wrong for Place too.
	m := three()
	m.Places, m.Advances = nil, m.Advances[:2]
	place(t, m, 0, 0, 0, 45)
	for _, n := range append(ends(), 0) {
		m := three()
		m.Glyphs = n
		for _, g := range append(ends(), 0, 1, 2, 3) {
			advance(t, m, g, 0, 45)
			place(t, m, g, 0, 0, 45)
		}
	}
}

// P4.2: nothing but what the promise names is asked: neither the kind, the units, the bearings, nor what the numbers are.
func TestGlyphsOfOddMetrics(t *testing.T) {
	m := api.Metrics{Kind: -7, Units: -1, Glyphs: 2, Advances: []int{math.MinInt, math.MaxInt}, Places: []int{math.MaxInt, math.MaxInt, math.MaxInt}}
	advance(t, m, 0, math.MinInt, 0)
	advance(t, m, 1, math.MaxInt, 0)
	place(t, m, 1, math.MaxInt, 0, 0)
	m.Places = []int{0, math.MaxInt, 5}
	place(t, m, 0, 0, math.MaxInt, 0)
	place(t, m, 1, math.MaxInt, 5-math.MaxInt, 0)
	// A font of KindCff may be handed in with places, one of KindGlyf without.
	m = three()
	m.Kind = 2
	place(t, m, 2, 10, 26, 0)
	// A glyph beyond MaxGlyphs is one, if the metrics have it.
	m = api.Metrics{Glyphs: 5000, Advances: slices.Repeat([]int{3}, 5000), Places: slices.Repeat([]int{8}, 5001)}
	advance(t, m, 4999, 3, 0)
	place(t, m, 4999, 8, 0, 0)
}

// scale: Scale answers this.
func scale(t *testing.T, units, n, size, want int, wantE api.Errno) {
	t.Helper()
	if got, e := metric.Scale(api.Metrics{Units: units}, n, size); got != want || e != wantE {
		t.Errorf("Scale of %d at %d by %d: %d, %v; not %d, %v", n, size, units, got, e, want, wantE)
	}
}

// P4.3 by hand.
func TestScale(t *testing.T) {
	scale(t, 1000, 500, 640, 320, 0)
	scale(t, 1000, -500, 640, -320, 0)
	scale(t, 1000, 0, 640, 0, 0)
	scale(t, 16, 1, 1, 0, 0)
	scale(t, 16, 7, 1, 0, 0)
	scale(t, 16, 8, 1, 1, 0)
	scale(t, 16, -7, 1, 0, 0)
	scale(t, 16, -8, 1, -1, 0)
	scale(t, 16, 24, 1, 2, 0)
	scale(t, 16, -24, 1, -2, 0)
	scale(t, 1000, 1, 499, 0, 0)
	scale(t, 1000, 1, 500, 1, 0)
	scale(t, 1000, -1, 500, -1, 0)
	scale(t, 16384, 16384, 65536, 65536, 0)
	scale(t, 16, 16, 65536, 65536, 0)
	scale(t, 16, -1, 65536, -4096, 0)
}

// P4.3: the edges of units and sizes, and that they are asked ahead of the answer.
func TestScaleEdges(t *testing.T) {
	for _, units := range append(ends(), 0, 1, 15, 16385, 65536) {
		scale(t, units, 5, 64, 0, 45)
		scale(t, units, 0, 64, 0, 45)
		scale(t, units, math.MaxInt, 64, 0, 45)
		scale(t, units, math.MinInt, 0, 0, 45)
	}
	for _, size := range append(ends(), 0, 65537) {
		scale(t, 1000, 5, size, 0, 45)
		scale(t, 1000, 0, size, 0, 45)
		scale(t, 1000, math.MaxInt, size, 0, 45)
	}
	for _, units := range []int{16, 17, 16383, 16384} {
		scale(t, units, units, 1, 1, 0)
		scale(t, units, units, 65536, 65536, 0)
		scale(t, units, -units, 65535, -65535, 0)
	}
}

// P4.3: an answer that is just a FIX, and one that isn't.
func TestScaleFix(t *testing.T) {
	for _, sign := range []int{1, -1} {
		scale(t, 16, sign*16*2147483647, 1, sign*2147483647, 0)
		scale(t, 16, sign*(16*2147483647+7), 1, sign*2147483647, 0)
		scale(t, 16, sign*(16*2147483647+8), 1, 0, 44)
		scale(t, 16, sign*16*2147483648, 1, 0, 44)
		scale(t, 16384, sign*536870911, 65536, sign*2147483644, 0)
		scale(t, 16384, sign*536870912, 65536, 0, 44)
		scale(t, 16384, sign*16384*2147483647, 1, sign*2147483647, 0)
		scale(t, 1000, sign<<60, 640, 0, 44)
		// A product that wraps round in 64 bits is no answer.
		scale(t, 16, sign<<48, 65536, 0, 44)
		scale(t, 16, sign*(1<<48+1), 65536, 0, 44)
	}
	for _, n := range ends() {
		if n < -1<<32 || n > 1<<32 {
			for _, size := range []int{1, 640, 65536} {
				scale(t, 16, n, size, 0, 44)
				scale(t, 16384, n, size, 0, 44)
			}
		}
	}
}

// P4.3 against numbers without an end.
func TestScaleModel(t *testing.T) {
	r := rand.New(rand.NewSource(44))
	for range 200000 {
		units, size := 16+r.Intn(16369), 1+r.Intn(65536)
		n := int(r.Uint64()) >> r.Intn(64)
		if r.Intn(2) == 0 { // near the last FIX
			n = int(int64(r.Intn(3)-1)*2147483647*int64(units)/int64(size)) + r.Intn(7) - 3
		}
		want, wantE := nearest(n, size, units)
		scale(t, units, n, size, want, wantE)
	}
}

// nearest: n times size by units: twice the quotient without its sign, one put to it, halved downwards.
func nearest(n, size, units int) (int, api.Errno) {
	p := new(big.Int).Mul(big.NewInt(int64(n)), big.NewInt(int64(size)))
	sign := int64(p.Sign())
	p.Abs(p).Lsh(p, 1).Add(p, big.NewInt(int64(units))).Div(p, big.NewInt(2*int64(units)))
	if p.Cmp(big.NewInt(2147483647)) > 0 {
		return 0, 44
	}
	return int(sign * p.Int64()), 0
}

// Scale looks at the units alone: no glyph, no kind.
func TestScaleOfOddMetrics(t *testing.T) {
	m := three()
	m.Kind, m.Glyphs, m.Advances, m.Places = -1, math.MinInt, nil, []int{3}
	if n, e := metric.Scale(m, 500, 640); n != 320 || e != 0 {
		t.Error(n, e)
	}
}

// What is handed in is not changed, spare room included.
func TestMetricsUnchanged(t *testing.T) {
	spare := func(list ...int) []int { return append(list, -1, -2)[:len(list)] }
	make := func() api.Metrics {
		return api.Metrics{Kind: 1, Units: 16, Glyphs: 2, Advances: spare(5, 6), Bearings: spare(7, 8), Places: spare(0, 2, 4)}
	}
	whole := func(m api.Metrics) [][]int { return [][]int{m.Advances[:4], m.Bearings[:4], m.Places[:5]} }
	m := make()
	for g := -1; g < 4; g++ {
		metric.Advance(m, g)
		metric.Place(m, g)
		metric.Scale(m, g, 64)
	}
	if want := make(); !reflect.DeepEqual(m, want) || !reflect.DeepEqual(whole(m), whole(want)) {
		t.Error(m)
	}
}
