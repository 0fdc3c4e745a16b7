package cmap_test

import (
	"fmt"
	"math"
	"math/rand"
	"slices"
	"testing"

	"serif/api"
	"serif/cmap"
	"serif/peek"
)

// refused: Read answers the error and no map, and the model says so too.
func refused(t *testing.T, name string, b []byte, glyphs int, want api.Errno) {
	t.Helper()
	if m, e := cmap.Read(peek.New(b), glyphs); m != nil || e != want {
		t.Errorf("%s: Read answers %v, %v; not %v", name, m, e, want)
	}
	if _, e := readModel(b, glyphs); e != want {
		t.Errorf("%s: the model answers %v, not %v", name, e, want)
	}
}

// taken: the map that Read answers, without an error.
func taken(t *testing.T, name string, b []byte, glyphs int) *cmap.Map {
	t.Helper()
	m, e := cmap.Read(peek.New(b), glyphs)
	if m == nil || e != api.OK {
		t.Fatalf("%s: Read answers %v, %v", name, m, e)
	}
	return m
}

// ends: numbers that are no CODE, no selector and no number of glyphs; sums and doubles of them wrap round to small ones.
func ends() []int {
	return []int{-1, -2, -65, -97, -256, -65536, 1 << 24, 1<<24 + 255, 1 << 31, 1<<31 - 1, 1 << 32, 1<<32 + 65, 1 << 62, 1<<62 + 65, 1<<63 - 65,
		-1 << 31, -1 << 32, -1<<32 + 65, -1 << 62, -1<<62 + 65, math.MaxInt, math.MaxInt - 1, math.MinInt, math.MinInt + 1, math.MinInt + 65}
}

// sample: a right table that has selectors too.
func sample() []byte {
	return table(part{3, 10, groups(12, group{97, 99, 5})}, part{0, 5, form14(choice{65024, [][2]int{{97, 1}}, [][2]int{{99, 2}}})})
}

// P5.1: how many glyphs there may be; that is asked first.
func TestReadGlyphs(t *testing.T) {
	for _, n := range []int{1, 2, 4095, 4096} {
		if m := taken(t, fmt.Sprint(n, " glyphs"), sample(), n); m.Form() != 12 {
			t.Error(n, m.Form())
		}
	}
	for _, n := range append(ends(), 0, 4097, 65536) {
		refused(t, fmt.Sprint(n, " glyphs"), sample(), n, 53)
		refused(t, fmt.Sprint(n, " glyphs, no bytes"), nil, n, 53)
		refused(t, fmt.Sprint(n, " glyphs, version"), []byte{0, 1, 0, 0}, n, 53)
	}
}

// P5.1: the version, then the number of rows.
func TestReadHeading(t *testing.T) {
	for _, b := range [][]byte{nil, {}, {0}, {1}, {0, 0}, {0, 0, 0}, {0, 0, 1}} {
		refused(t, fmt.Sprint("cut off ", b), b, 9, 51)
	}
	for _, version := range []int{1, 2, 255, 256, 32768, 65535} {
		b := sample()
		copy(b, u16s(version))
		refused(t, fmt.Sprint("version ", version), b, 9, 52)
		refused(t, fmt.Sprint("version alone ", version), u16s(version), 9, 52)
		refused(t, fmt.Sprint("version, 65 rows ", version), u16s(version, 65), 9, 52)
	}
	refused(t, "no row", u16s(0, 0), 9, 52)
	refused(t, "no row, bytes behind", join(u16s(0, 0), sample()[4:]), 9, 52)
	for _, n := range []int{65, 66, 256, 65535} {
		refused(t, fmt.Sprint(n, " rows that aren't there"), u16s(0, n), 9, 53)
	}
}

// P5.1: as many rows as there may be, and one more; the one that is known is the first, one in the middle, the last.
func TestReadRows(t *testing.T) {
	for _, n := range []int{1, 2, 63, 64, 65} {
		for _, at := range []int{0, n / 2, n - 1} {
			parts := slices.Repeat([]part{{7, 7, nil}}, n)
			parts[at] = part{0, 3, form6(65, 3, 4)}
			name := fmt.Sprint(n, " rows, known ", at)
			if n == 65 {
				refused(t, name, table(parts...), 9, 53)
				continue
			}
			if m := taken(t, name, table(parts...), 9); m.Form() != 6 || m.Glyph(65) != 3 || m.Glyph(66) != 4 {
				t.Error(name, m.Form(), m.Glyph(65), m.Glyph(66))
			}
		}
	}
}

// P5.1: all rows are read: one that is cut off is an error, even if the one ahead of it is known and its subtable is there.
func TestReadRowsCutOff(t *testing.T) {
	sub := form6(65, 3, 4)
	right := join(u16s(0, 2, 3, 10), u32s(0), u16s(3, 10), u32s(0))
	for n := 4; n < len(right); n++ {
		refused(t, fmt.Sprint("rows of two cut off at ", n), right[:n], 9, 51)
	}
	// The rows' own bytes are taken as those of more rows: the last one isn't whole.
	many := join(u16s(0, 64, 3, 10), u32s(12), sub)
	refused(t, "64 rows that aren't there", many, 9, 51)
	refused(t, "64 rows without a byte", table(slices.Repeat([]part{{3, 10, nil}}, 64)...)[:4+8*64-1], 9, 51)
	refused(t, "none that is known, the last one cut off", table(part{7, 7, nil}, part{7, 7, nil})[:19], 9, 51)
}

// ranking: the kinds in the order that the chapter tells.
func ranking() [][2]int {
	return [][2]int{{3, 10}, {0, 6}, {0, 4}, {3, 1}, {0, 3}, {0, 2}, {0, 1}, {0, 0}, {1, 0}}
}

// P5.1: each ranked row alone, and among rows that aren't looked at.
func TestChoiceAlone(t *testing.T) {
	for _, k := range ranking() {
		p := part{k[0], k[1], form6(65, 3)}
		if m := taken(t, fmt.Sprint(k), table(p), 9); m.Form() != 6 || m.Glyph(65) != 3 {
			t.Error(k, m.Form(), m.Glyph(65))
		}
		wrong := part{2, 10, u16s(4)}
		if m := taken(t, fmt.Sprint(k), table(wrong, p, wrong), 9); m.Form() != 6 || m.Glyph(65) != 3 {
			t.Error(k, m.Form(), m.Glyph(65))
		}
	}
}

// P5.1: of two rows the one that ranks higher, whichever comes first; the other's subtable may be wrong.
func TestChoiceOfTwo(t *testing.T) {
	list := ranking()
	for i, high := range list {
		for _, low := range list[i+1:] {
			a, b := part{high[0], high[1], form6(65, 3)}, part{low[0], low[1], groups(12, group{65, 65, 4})}
			bad := part{low[0], low[1], u16s(99)}
			for k, b := range [][]byte{table(a, b), table(b, a), table(a, bad), table(bad, a)} {
				name := fmt.Sprint(high, low, k)
				if m := taken(t, name, b, 9); m.Form() != 6 || m.Glyph(65) != 3 {
					t.Error(name, m.Form(), m.Glyph(65))
				}
			}
			a.sub = u16s(99)
			refused(t, fmt.Sprint("the better one is wrong ", high, low), table(a, b), 9, 52)
			refused(t, fmt.Sprint("the better one is wrong ", low, high), table(b, a), 9, 52)
		}
	}
	all := []part{}
	for i, k := range list {
		all = append(all, part{k[0], k[1], form6(65, 1+i)})
	}
	for i := range all {
		slices.Reverse(all[i:])
		if m := taken(t, "all", table(all[i:]...), 99); m.Glyph(65) != 1+i {
			t.Error(i, m.Glyph(65))
		}
		slices.Reverse(all[i:])
	}
}

// P5.1: of two rows of one rank the first counts.
func TestChoiceOfOneRank(t *testing.T) {
	for _, k := range ranking() {
		a, b := part{k[0], k[1], form6(65, 3)}, part{k[0], k[1], form6(65, 4)}
		if m := taken(t, fmt.Sprint(k), table(a, b), 9); m.Glyph(65) != 3 {
			t.Error(k, m.Glyph(65))
		}
		if m := taken(t, fmt.Sprint(k), table(b, a), 9); m.Glyph(65) != 4 {
			t.Error(k, m.Glyph(65))
		}
		wrong := part{k[0], k[1], nil}
		refused(t, fmt.Sprint("the first is wrong ", k), table(part{k[0], k[1], u16s(2)}, a), 9, 52)
		if m := taken(t, fmt.Sprint("the second is wrong ", k), table(a, wrong), 9); m.Glyph(65) != 3 {
			t.Error(k, m.Glyph(65))
		}
	}
}

// P5.1: no row that is known.
func TestChoiceOfNone(t *testing.T) {
	known := ranking()
	for platform := range 6 {
		for encoding := range 14 {
			if !slices.Contains(known, [2]int{platform, encoding}) {
				refused(t, fmt.Sprint(platform, encoding), table(part{platform, encoding, form6(65, 3)}), 9, 52)
			}
		}
	}
	for _, k := range [][2]int{{3, 256}, {256, 0}, {3, 266}, {259, 10}, {65535, 65535}, {3, 65535}, {10, 3}} {
		refused(t, fmt.Sprint(k), table(part{k[0], k[1], form6(65, 3)}), 9, 52)
	}
	// Selectors alone are not enough, and they aren't read then.
	refused(t, "selectors alone", table(part{0, 5, form14()}), 9, 52)
	refused(t, "wrong selectors alone", table(part{0, 5, nil}), 9, 52)
}

// P5.1: places of subtables: at the table's last bytes, at its end, beyond it, and at its beginning.
func TestPlaces(t *testing.T) {
	for _, place := range []int{11, 12, 13, 100, 1 << 16, 1<<31 - 1, 1 << 31, 1<<32 - 2, 1<<32 - 1} {
		b := join(u16s(0, 1, 3, 1), u32s(place))
		refused(t, fmt.Sprint("place ", place), b, 9, 51)
		far := min(place+30, 1<<32-1) // behind the rows and the subtable
		b = join(u16s(0, 2, 3, 1), u32s(20), u16s(0, 5), u32s(far), form6(65, 3))
		refused(t, fmt.Sprint("place of selectors ", far), b, 9, 51)
	}
	b := join(u16s(0, 1, 3, 1), u32s(12), u16s(6))
	refused(t, "a form and no more", b, 9, 51)
	refused(t, "half a form", b[:13], 9, 51)
	refused(t, "a form that isn't known and no more", join(b[:12], u16s(7)), 9, 52)
	// The version is the form 0 as well.
	b = join(u16s(0, 1, 0, 0), u32s(0), filler(262-12))
	if m := taken(t, "place 0", b, 200); m.Form() != 0 || m.Glyph(0) != 0 || m.Glyph(5) != 0 || m.Glyph(6) != 167 || m.Glyph(255) != 167 || m.Glyph(256) != 0 {
		t.Error("place 0")
	}
	refused(t, "place 0, too short", b[:261], 200, 51)
	// Two rows may tell one place.
	b = join(u16s(0, 2, 3, 1), u32s(20), u16s(3, 10), u32s(20), form6(65, 3))
	if m := taken(t, "one place", b, 9); m.Glyph(65) != 3 {
		t.Error("one place")
	}
}

// P5.1: of two faults the first in the chapter's order is answered.
func TestFirstFault(t *testing.T) {
	sub, picks := form6(65, 3), form14()
	wrongKind, wrongMany, wrongShort := u16s(5), join(groups(12)[:12], u32s(4097)), groups(12)[:15]
	pickKind, pickMany, pickShort := u16s(13), join(form14()[:6], u32s(4097)), form14()[:9]
	for _, c := range []struct {
		name       string
		sub, picks []byte
		want       api.Errno
	}{
		{"none", sub, picks, 0},
		{"kind, kind", wrongKind, pickKind, 52}, {"kind, many", wrongKind, pickMany, 52},
		{"many, kind", wrongMany, pickKind, 53}, {"many, many", wrongMany, pickMany, 53},
		{"right, kind", sub, pickKind, 52}, {"right, many", sub, pickMany, 53},
		{"groups, kind", groups(12, group{9, 8, 0}), pickKind, 51}, {"groups, many", groups(12, group{9, 8, 0}), pickMany, 51},
	} {
		// The selectors' row stands first in the one, last in the other: that is no matter.
		for _, b := range [][]byte{table(part{3, 10, c.sub}, part{0, 5, c.picks}), table(part{0, 5, c.picks}, part{3, 10, c.sub})} {
			if c.want == 0 {
				taken(t, c.name, b, 9)
			} else {
				refused(t, c.name, b, 9, c.want)
			}
			wrong := slices.Clone(b)
			copy(wrong, u16s(1))
			refused(t, "version, "+c.name, wrong, 9, 52)
			refused(t, "glyphs, "+c.name, wrong, 0, 53)
			refused(t, "rows, "+c.name, join(u16s(0, 65), b[4:]), 9, 53)
		}
	}
	// What is too short stands last, where nothing comes behind it.
	refused(t, "right, short", table(part{3, 10, sub}, part{0, 5, pickShort}), 9, 51)
	refused(t, "kind, short", table(part{3, 10, wrongKind}, part{0, 5, pickShort}), 9, 52)
	refused(t, "short, kind", table(part{0, 5, pickKind}, part{3, 10, wrongShort}), 9, 51)
	refused(t, "short, many", table(part{0, 5, pickMany}, part{3, 10, wrongShort}), 9, 51)
}

// P5.1: the first of two rows of selectors counts.
func TestTwoRowsOfSelectors(t *testing.T) {
	sub := part{3, 1, form6(65, 3)}
	a, b := part{0, 5, form14(choice{7, nil, [][2]int{{65, 1}}})}, part{0, 5, form14(choice{7, nil, [][2]int{{65, 2}}})}
	for i, parts := range [][]part{{a, sub, b}, {b, a, sub}, {sub, a, {0, 5, nil}}} {
		m := taken(t, "two of selectors", table(parts...), 9)
		if g, k := m.Variant(65, 7); g != []int{1, 2, 1}[i] || k != 2 {
			t.Error(i, g, k)
		}
	}
	refused(t, "the first is wrong", table(sub, part{0, 5, form6(65)}, a), 9, 52)
}

// Nothing that was handed in is changed or kept: not the bytes, not the view.
func TestNothingKept(t *testing.T) {
	for name, b := range seeds() {
		r := rand.New(rand.NewSource(1))
		want, e := readModel(slices.Clone(b), 300)
		if e != 0 {
			t.Fatal(name, e)
		}
		before := slices.Clone(b)
		v := peek.New(b)
		m, e := cmap.Read(v, 300)
		if e != 0 {
			t.Fatal(name, e)
		}
		if !slices.Equal(v.Bytes(), before) || !slices.Equal(b, before) {
			t.Error(name, "changed what it was given")
		}
		*v = *peek.New(filler(len(b)))
		for i := range b {
			b[i] = 0x55
		}
		same(t, name, m, want, r)
	}
}

// P2: a map answers the same whatever was asked before, and two maps have nothing to do with each other.
func TestAnswersAgain(t *testing.T) {
	b := sample()
	m, other := taken(t, "sample", b, 9), taken(t, "other", one(form6(97, 8, 8, 8)), 9)
	for range 3 {
		for _, c := range []int{99, 97, 0, -1, 98, 1 << 40, 97} {
			want := map[int]int{97: 5, 98: 6, 99: 7}[c]
			if m.Glyph(c) != want {
				t.Error(c, m.Glyph(c))
			}
			other.Glyph(c)
			other.Variant(c, 65024)
		}
		if g, k := m.Variant(99, 65024); g != 2 || k != 2 {
			t.Error(g, k)
		}
		if g, k := m.Variant(98, 65024); g != 6 || k != 1 {
			t.Error(g, k)
		}
		again := taken(t, "again", b, 9)
		if again.Glyph(98) != 6 || again.Form() != 12 || m.Form() != 12 || other.Form() != 6 {
			t.Error("again")
		}
	}
}

// The chapter's errors have their numbers, and the limits theirs.
func TestNumbers(t *testing.T) {
	got := []int{int(api.ErrCmap), int(api.ErrCmapKind), int(api.ErrCmapMany), api.MaxGroups, api.MaxCode, api.MaxGlyphs}
	if want := []int{51, 52, 53, 4096, 1114111, 4096}; !slices.Equal(got, want) {
		t.Error(got, want)
	}
}
