package glyf_test

import (
	"math"
	"math/rand"
	"slices"
	"testing"

	"serif/api"
)

// randomSimple: a simple glyph of a few contours, with flags of all sorts.
func randomSimple(r *rand.Rand) []byte {
	var lasts []int
	last := -1
	for range r.Intn(4) {
		last += 1 + r.Intn(5)
		lasts = append(lasts, last)
	}
	code := make([]byte, r.Intn(4))
	r.Read(code)
	var flags, xs, ys []byte
	for left := last + 1; left > 0; {
		flag, times := r.Intn(256), 1
		flags = append(flags, byte(flag))
		if flag&8 != 0 {
			times += r.Intn(left)
			flags = append(flags, byte(times-1))
		}
		left -= times
		for range times {
			x, _ := told(flag&2 != 0, flag&16 != 0, r.Intn(256), r.Intn(65536))
			y, _ := told(flag&4 != 0, flag&32 != 0, r.Intn(256), r.Intn(65536))
			xs, ys = append(xs, x...), append(ys, y...)
		}
	}
	return simple(lasts, code, flags, xs, ys)
}

// randomComposed: a glyph of a few parts of glyphs below n, or of any.
func randomComposed(r *rand.Rand, n int) []byte {
	var parts []byte
	for left := 1 + r.Intn(4); left > 0; left-- {
		flags := r.Intn(65536) | shifted
		if r.Intn(20) == 0 {
			flags &^= shifted
		}
		if r.Intn(30) > 0 {
			flags &^= more
			if left > 1 {
				flags |= more
			}
		}
		glyph := r.Intn(n)
		if r.Intn(30) == 0 {
			glyph = r.Intn(20)
		}
		shift := []byte{byte(r.Intn(256)), byte(r.Intn(256))}
		if flags&words != 0 {
			shift = u16s(r.Intn(65536), r.Intn(65536))
		}
		numbers := 0
		switch {
		case flags&single != 0:
			numbers = 1
		case flags&double != 0:
			numbers = 2
		case flags&four != 0:
			numbers = 4
		}
		var matrix []byte
		for range numbers {
			matrix = join(matrix, u16s([]int{16384, -16384, 0, -32768, 32767, r.Intn(65536)}[r.Intn(6)]))
		}
		parts = join(parts, part(flags, glyph, shift, matrix))
	}
	return composed(parts)
}

// randomFont: simple glyphs, and behind them glyphs of those ahead of each.
func randomFont(r *rand.Rand) ([]byte, []int) {
	var glyphs [][]byte
	for range 1 + r.Intn(3) {
		glyphs = append(glyphs, randomSimple(r))
	}
	for range r.Intn(10) {
		glyphs = append(glyphs, []func() []byte{
			func() []byte { return randomComposed(r, len(glyphs)) },
			func() []byte { return many(1, len(glyphs)-1) },
			func() []byte { return nil },
			func() []byte { return many(1+r.Intn(80), r.Intn(len(glyphs))) },
		}[[]int{0, 0, 0, 0, 1, 1, 1, 2, 3}[r.Intn(9)]]())
	}
	return font(glyphs...)
}

// Fonts of all sorts, and such as were changed in some bytes or places: Decode answers as the model does.
func TestChanged(t *testing.T) {
	r := rand.New(rand.NewSource(9))
	seen := map[api.Errno]int{}
	values := []byte{0, 1, 2, 3, 4, 8, 9, 10, 16, 32, 64, 127, 128, 254, 255}
	for i := range 6000 {
		table, places := randomFont(r)
		if i%2 == 1 {
			for range 1 + r.Intn(3) {
				table[r.Intn(len(table))] = values[r.Intn(len(values))]
			}
			if at := r.Intn(len(places)); r.Intn(3) == 0 {
				places[at] += r.Intn(9) - 4
			}
		}
		for g := -1; g <= len(places); g++ {
			_, e := decode(t, table, places, g)
			seen[e]++
		}
	}
	for _, e := range []api.Errno{0, 71, 72, 73, 75} {
		if seen[e] < 500 {
			t.Errorf("only %d glyphs answer %v", seen[e], e)
		}
	}
}

// Turns within turns, up to coordinates that layer 6 refuses: 64 knots by 2^15, then up to seven times four times that.
func TestFarTurns(t *testing.T) {
	r := rand.New(rand.NewSource(11))
	big := func() int { return []int{-32768, -32768, -32767, -32760}[r.Intn(4)] }
	seen := map[api.Errno]int{}
	for range 2000 {
		glyphs := [][]byte{far(60+r.Intn(6), -32768)}
		for g := range 7 {
			a, b := big(), big()
			next := turned(g, a, b, a, b)
			if r.Intn(4) == 0 {
				next = moved(g, r.Intn(65536), r.Intn(65536))
			}
			glyphs = append(glyphs, next)
		}
		table, places := font(glyphs...)
		for g := range glyphs {
			_, e := decode(t, table, places, g)
			seen[e]++
		}
	}
	if seen[0] < 500 || seen[74] < 500 {
		t.Error(seen)
	}
}

// Bytes and places of any kind.
func TestAnyBytes(t *testing.T) {
	r := rand.New(rand.NewSource(10))
	edges := []int{0, 1, 10, 30, -1, math.MaxInt, math.MinInt, math.MaxInt - 1, math.MinInt + 1}
	for range 30000 {
		b := make([]byte, r.Intn(80))
		for i := range b {
			b[i] = byte(r.Intn(256) * r.Intn(2) >> r.Intn(8))
		}
		if r.Intn(2) == 0 {
			b = join(head(r.Intn(6)-3), b)
		}
		places := []int{0, len(b)}
		for range r.Intn(4) {
			places = append(places, []int{r.Intn(len(b) + 1), r.Intn(len(b) + 3), edges[r.Intn(len(edges))]}[r.Intn(3)])
		}
		if r.Intn(2) == 0 {
			slices.Sort(places)
		}
		for _, g := range append(edges, r.Intn(6)) {
			decode(t, b, places, g)
		}
	}
}
