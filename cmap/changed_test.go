package cmap_test

import (
	"maps"
	"math/rand"
	"slices"
	"testing"

	"serif/api"
	"serif/cmap"
	"serif/peek"
)

// seeds: right tables of all forms, most of them with selectors.
func seeds() map[string][]byte {
	picks := part{0, 5, form14(
		choice{5, [][2]int{{65, 3}, {70, 0}}, [][2]int{{66, 9}, {300, 2}}}, choice{9, nil, [][2]int{{65, 7}}}, choice{300, [][2]int{{0, 255}}, nil}, choice{65024, [][2]int{}, [][2]int{}},
	)}
	return map[string][]byte{
		"0":         table(part{1, 0, form0()}, picks),
		"4":         table(part{3, 1, form4([]segment{{65, 70, 65536 - 60, 0}, {80, 90, 5, 4}, {91, 91, 0, 8}, {200, 65535, 3, 0}}, 3, 0, 9, 200, 65530, 7)}, picks),
		"4 alone":   one(form4([]segment{{1, 40, 0, 6}, {20, 60, 1, 0}, {65535, 65535, 1, 0}}, 1, 2, 3, 0, 5, 6)),
		"6":         table(picks, part{0, 0, form6(65, 1, 2, 3, 4, 0, 300, 299)}),
		"12":        table(part{0, 4, groups(12, group{0, 3, 2}, group{65, 80, 10}, group{300, 400, 250}, group{65536, 1114111, 0})}, picks, part{3, 1, nil}),
		"13":        table(part{0, 6, groups(13, group{0, 3, 2}, group{65, 80, 10}, group{300, 400, 299}, group{65536, 1114111, 300})}, picks),
		"12 of two": table(part{3, 1, form6(65, 8)}, part{0, 5, form14()}, part{3, 10, groups(12, group{65, 70, 9})}, part{3, 10, groups(13, group{65, 70, 8})}),
	}
}

// same: the map answers as the model does, for codes near each number that the bytes may tell, and for others.
func same(t *testing.T, name string, m *cmap.Map, want model, r *rand.Rand) {
	t.Helper()
	if m.Form() != want.form() {
		t.Fatalf("%s: the form is %d, not %d", name, m.Form(), want.form())
	}
	codes := append(ends(), 0, 1, 64, 65, 66, 70, 71, 80, 90, 91, 92, 199, 200, 255, 256, 300, 65535, 65536, 1114111, 1114112)
	for range 30 {
		codes = append(codes, r.Intn(100), r.Intn(500), r.Intn(70000), r.Intn(1200000))
		if at := r.Intn(len(want.b)); want.has(at, 3) {
			codes = append(codes, want.get(at, 3), want.get(at, 2), want.get(at, 1))
		}
	}
	for _, c := range codes {
		if got := m.Glyph(c); got != want.glyph(c) {
			t.Fatalf("%s: %v: the code %d has %d, not %d", name, want.b, c, got, want.glyph(c))
		}
		for _, s := range []int{5, 9, 300, 65024, 0, codes[r.Intn(len(codes))]} {
			g, k := m.Variant(c, s)
			if wantG, wantK := want.variant(c, s); g != wantG || k != wantK {
				t.Fatalf("%s: %v: Variant(%d, %d) is %d, %d; not %d, %d", name, want.b, c, s, g, k, wantG, wantK)
			}
		}
	}
}

// change: the table with some bytes of other values, or cut off, or longer.
func change(b []byte, r *rand.Rand) []byte {
	out := slices.Clone(b)
	values := []byte{0, 1, 2, 3, 4, 5, 6, 8, 12, 13, 14, 15, 16, 17, 64, 65, 66, 127, 128, 255}
	for range r.Intn(4) {
		if len(out) > 0 {
			// Most of what is asked for stands near the front, or in the last bytes.
			at := r.Intn(len(out))
			if r.Intn(2) == 0 {
				at = r.Intn(min(len(out), 60))
			}
			out[at] = values[r.Intn(len(values))]
		}
	}
	switch r.Intn(8) {
	case 0:
		out = out[:r.Intn(len(out)+1)]
	case 1:
		out = out[:max(0, len(out)-r.Intn(5))]
	case 2:
		out = append(out, filler(r.Intn(9))...)
	}
	return out
}

// Changed tables: Read and its map answer as the model does.
func TestChanged(t *testing.T) {
	r := rand.New(rand.NewSource(5))
	seen := map[api.Errno]int{}
	all := seeds()
	for _, name := range slices.Sorted(maps.Keys(all)) {
		for range 6000 {
			b := change(all[name], r)
			glyphs := []int{1, 9, 10, 200, 300, 4096}[r.Intn(6)]
			if r.Intn(50) == 0 {
				glyphs = 4097 * r.Intn(2)
			}
			want, e := readModel(b, glyphs)
			seen[e]++
			m, got := cmap.Read(peek.New(b), glyphs)
			if got != e || (m == nil) != (e != 0) {
				t.Fatalf("%s: %v, %d: Read answers %v, %v; not %v", name, b, glyphs, m, got, e)
			}
			if e == 0 {
				same(t, name, m, want, r)
			}
		}
	}
	for _, e := range []api.Errno{0, 51, 52, 53} {
		if seen[e] < 500 {
			t.Errorf("only %d changed tables answer %v", seen[e], e)
		}
	}
}

// Bytes of any kind: nothing panics, and the model answers the same.
func TestAnyBytes(t *testing.T) {
	r := rand.New(rand.NewSource(6))
	for range 20000 {
		b := make([]byte, r.Intn(80))
		for i := range b {
			b[i] = byte(r.Intn(256) * r.Intn(2) >> r.Intn(8))
		}
		if r.Intn(4) > 0 {
			b = join(u16s(0, 2, 3, 10), u32s(20), u16s(0, 5), u32s(r.Intn(60)), u16s([]int{0, 4, 6, 12, 13}[r.Intn(5)]), b)
		}
		want, e := readModel(b, 300)
		m, got := cmap.Read(peek.New(b), 300)
		if got != e || (m == nil) != (e != 0) {
			t.Fatalf("%v: Read answers %v, %v; not %v", b, m, got, e)
		}
		if e == 0 {
			same(t, "any bytes", m, want, r)
		}
	}
}
