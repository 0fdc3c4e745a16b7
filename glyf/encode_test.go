package glyf_test

import (
	"bytes"
	"fmt"
	"math"
	"math/rand"
	"slices"
	"testing"

	"serif/api"
	"serif/glyf"
)

// encode: what Encode answers, which leaves what it was given, spare room included, and shares nothing with it.
func encode(t *testing.T, o [][]api.Knot, code []byte) ([]byte, api.Errno) {
	t.Helper()
	given := make([][]api.Knot, len(o), len(o)+2)
	for i, contour := range o {
		given[i] = append(slices.Clip(slices.Clone(contour)), on(71, 72), quad(73, 74))[:len(contour)]
	}
	bytesGiven := append(slices.Clip(slices.Clone(code)), 81, 82, 83)[:len(code)]
	b, e := glyf.Encode(given, bytesGiven)
	again, _ := glyf.Encode(o, code)
	if !bytes.Equal(b, again) || e != 0 && b != nil {
		t.Fatalf("%v, then %v, beside %v", short(b), short(again), e)
	}
	for i := range b {
		b[i] ^= 255
	}
	_ = append(b, 1, 2, 3)
	for i, contour := range o {
		if !slices.Equal(given[i], contour) || !slices.Equal(given[i][:len(contour)+2][len(contour):], knots(on(71, 72), quad(73, 74))) {
			t.Fatalf("the contour %d is changed", i)
		}
	}
	if !bytes.Equal(bytesGiven, code) || !bytes.Equal(bytesGiven[:len(code)+3][len(code):], row(81, 82, 83)) {
		t.Fatal("the code is changed")
	}
	if spare := given[:len(o)+2]; spare[len(o)] != nil || spare[len(o)+1] != nil {
		t.Fatal("spare room is written")
	}
	return again, e
}

// writes: Encode answers these bytes, and Decode gives back what was written.
func writes(t *testing.T, o [][]api.Knot, code, want []byte) {
	t.Helper()
	b, e := encode(t, o, code)
	if e != 0 || !bytes.Equal(b, want) {
		t.Errorf("%v, %v; not %v", short(b), e, short(want))
	}
	back(t, o, code)
}

// back: Decode gives back all contours that have knots, and the code.
func back(t *testing.T, o [][]api.Knot, code []byte) {
	t.Helper()
	b, e := encode(t, o, code)
	if e != 0 {
		t.Fatalf("%v", e)
	}
	full := slices.DeleteFunc(slices.Clone(o), func(c []api.Knot) bool { return len(c) == 0 })
	got, e := decode(t, b, []int{0, len(b)}, 0)
	if e != 0 || !sameGlyph(got, api.Glyph{Outline: full, Code: code}) {
		t.Errorf("Decode gives back %v, %v", got, e)
	}
}

// refuses: Encode answers this error.
func refuses(t *testing.T, fault api.Errno, o [][]api.Knot, code []byte) {
	t.Helper()
	if b, e := encode(t, o, code); e != fault || len(b) != 0 {
		t.Errorf("%v, %v; not %v", short(b), e, fault)
	}
}

// P7.5: the bytes, by hand.
func TestEncode(t *testing.T) {
	box := row(0, 0, 0, 0, 0, 0, 0, 0)
	for _, none := range [][][]api.Knot{nil, {}, {nil}, {{}}, {nil, {}, nil}, make([][]api.Knot, 300)} {
		writes(t, none, nil, join(row(0, 0), box, row(0, 0)))
		writes(t, none, row(7, 0, 255), join(row(0, 0), box, row(0, 3, 7, 0, 255)))
	}
	writes(t, outline(knots(on(8, 4))), nil, join(row(0, 1), box, row(0, 0), row(0, 0), row(1), row(0, 8), row(0, 4)))
	writes(t, outline(knots(quad(-1, 256))), row(9), join(row(0, 1), box, row(0, 0), row(0, 1, 9), row(0), row(255, 255), row(1, 0)))
	o := outline(knots(on(10, 200), quad(7, 199), on(-293, -2)), knots(on(-293, -2)), knots(quad(-293, 3), on(300, 0)))
	want := join(row(0, 3), box, u16s(2, 3, 5), u16s(2), row(5, 6), row(1, 0, 1, 1, 0, 1), u16s(10, -3, -300, 0, 0, 593), u16s(200, -1, -201, 0, 5, -3))
	writes(t, o, row(5, 6), want)
	// Contours without knots aren't written.
	writes(t, outline(nil, o[0], knots(), o[1], nil, nil, o[2], nil), row(5, 6), want)
}

// P7.5: differences at both ends of what two bytes tell, from 0 and from the knot ahead, in this contour and in the one ahead of it.
func TestEncodeDifferences(t *testing.T) {
	for _, d := range []int{32767, 32766, 1, 0, -1, -32767, -32768} {
		for _, swap := range []bool{false, true} {
			k := func(x, y int) api.Knot {
				if swap {
					return quad(y, x)
				}
				return on(x, y)
			}
			back(t, outline(knots(k(d, 0))), nil)
			back(t, outline(knots(k(100, 5), k(100+d, 5))), nil)
			back(t, outline(knots(k(-100, 5)), knots(k(d-100, 5))), nil)
			back(t, outline(knots(k(d, 0), k(2*d, 0), k(3*d, 0)), nil, knots(k(4*d, 0))), nil)
		}
	}
	for _, d := range []int{32768, 32769, 65535, 65536, 65537, 1 << 32, 1<<32 + 1, math.MaxInt, math.MaxInt - 1, math.MaxInt - 32768, -32769, -32770, -65535, -65536, -65537, -1 << 32, math.MinInt, math.MinInt + 1, math.MinInt + 32768} {
		refuses(t, 75, outline(knots(on(d, 0))), nil)
		refuses(t, 75, outline(knots(on(0, d))), nil)
		refuses(t, 75, outline(knots(on(0, 0)), nil, knots(quad(d, 0))), nil)
		refuses(t, 75, outline(knots(on(0, 0)), nil, knots(quad(0, d))), nil)
		for _, from := range []int{1, -1, 32767, -32768} {
			// Sums and differences here wrap round to small numbers.
			refuses(t, 75, outline(knots(on(from, 0), on(from+d, 0))), nil)
			refuses(t, 75, outline(knots(on(0, from), on(0, from+d))), nil)
		}
		refuses(t, 75, outline(knots(on(d, d), on(d, d), on(0, 0))), nil)
		refuses(t, 75, outline(knots(on(d, 0), on(-d, 0))), nil)
	}
	refuses(t, 75, outline(knots(on(math.MaxInt, 0), on(math.MinInt, 0))), nil)
	refuses(t, 75, outline(knots(on(0, math.MinInt), on(0, math.MaxInt))), nil)
}

// P7.5: kinds that aren't taken.
func TestEncodeKinds(t *testing.T) {
	for _, kind := range []int{3, 0, 4, -1, 5, 257, 258, math.MaxInt, math.MinInt, math.MinInt + 1, 1<<32 + 1} {
		bad := api.Knot{X: 1, Y: 1, Kind: kind}
		for _, o := range [][][]api.Knot{{{bad}}, {{on(0, 0), bad}}, {{bad, on(0, 0)}}, {{on(0, 0)}, nil, {quad(1, 1), bad, on(2, 2)}}, {nil, {bad}, {on(0, 0)}}} {
			refuses(t, 75, o, nil)
			refuses(t, 75, o, row(1, 2, 3))
		}
	}
}

// P7.5: as many contours, knots and instruction bytes as are taken, and one more.
func TestEncodeLimits(t *testing.T) {
	_, contours := flat(256, 1)
	_, full := flat(256, 16)
	_, long := flat(1, 4096)
	code := bytes.Repeat(row(1, 2, 3), 21845)
	one := outline(knots(on(0, 0)))
	back(t, contours, nil)
	back(t, slices.Concat(contours[:100], make([][]api.Knot, 50), contours[100:]), nil)
	back(t, full, code)
	back(t, long, nil)
	back(t, nil, code)
	back(t, one, code)
	back(t, slices.Concat(long, make([][]api.Knot, 400)), code[:65534])
	refuses(t, 73, slices.Concat(contours, one), nil)
	refuses(t, 73, slices.Concat(contours, contours), nil)
	refuses(t, 73, slices.Concat(contours, make([][]api.Knot, 9), one), nil)
	refuses(t, 73, slices.Concat(long, one), nil)
	refuses(t, 73, outline(slices.Repeat(long[0], 20)), nil)
	refuses(t, 73, outline(slices.Concat(long[0], one[0])), nil)
	refuses(t, 73, nil, append(slices.Clone(code), 1))
	refuses(t, 73, one, make([]byte, 70000))
	refuses(t, 73, slices.Concat(contours, long), append(slices.Clone(code), 1))
	// What can't be written is ahead of what is too much, however late it comes.
	for _, bad := range []api.Knot{{Kind: 3}, on(32768, 0), on(0, -32769)} {
		refuses(t, 75, slices.Concat(contours, outline(knots(bad))), nil)
		refuses(t, 75, slices.Concat(long, long, outline(knots(bad))), nil)
		refuses(t, 75, outline(knots(bad)), make([]byte, 65536))
		refuses(t, 75, slices.Concat(outline(knots(bad)), long, contours), make([]byte, 65536))
	}
}

// P7.5: outlines of all sorts come back.
func TestEncodeRandom(t *testing.T) {
	r := rand.New(rand.NewSource(7))
	for range 3000 {
		var o [][]api.Knot
		x, y := 0, 0
		for range r.Intn(6) {
			var contour []api.Knot
			for range r.Intn(6) {
				x += r.Intn(65536)>>r.Intn(16) - []int{0, 1, 32768}[r.Intn(3)]
				y += r.Intn(65536)>>r.Intn(16) - []int{0, 1, 32768}[r.Intn(3)]
				contour = append(contour, api.Knot{X: x, Y: y, Kind: 1 + r.Intn(2)})
			}
			o = append(o, contour)
		}
		code := make([]byte, r.Intn(9))
		r.Read(code)
		if near(o) {
			back(t, o, code)
		} else {
			refuses(t, 75, o, code)
		}
	}
}

// near: are all differences signed numbers of two bytes?
func near(o [][]api.Knot) bool {
	all := slices.Concat(outline(knots(on(0, 0))), o)
	list := slices.Concat(all...)
	for i := 1; i < len(list); i++ {
		for _, d := range []int{list[i].X - list[i-1].X, list[i].Y - list[i-1].Y} {
			if d != int(int16(d)) {
				return false
			}
		}
	}
	return true
}

// Wrong inputs of all sorts: nothing panics, and the error is one of the two.
func TestEncodeAny(t *testing.T) {
	r := rand.New(rand.NewSource(8))
	edges := []int{0, 1, -1, 2, 3, 32767, 32768, -32768, -32769, 65535, maxFix, -maxFix, math.MaxInt, math.MinInt, math.MaxInt - 32767, math.MinInt + 32768}
	any := func() int { return edges[r.Intn(len(edges))] }
	for range 3000 {
		var o [][]api.Knot
		for range r.Intn(5) {
			var contour []api.Knot
			for range r.Intn(4) {
				contour = append(contour, api.Knot{X: any(), Y: any(), Kind: []int{1, 2, 1, 2, any()}[r.Intn(5)]})
			}
			o = append(o, contour)
		}
		was := fmt.Sprint(o)
		b, e := encode(t, o, nil)
		if e != 0 && e != 75 || (e == 0) != (len(b) > 0) || fmt.Sprint(o) != was {
			t.Fatal(o, b, e)
		}
	}
}
