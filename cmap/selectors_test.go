package cmap_test

import (
	"fmt"
	"slices"
	"testing"
)

// base: codes from 97 on have the glyphs 1, 2, 3 and so on up to 100.
func base() part {
	list := make([]int, 100)
	for i := range list {
		list[i] = 1 + i
	}
	return part{3, 1, form6(97, list...)}
}

// picked: a table with selectors.
func picked(sub []byte) []byte { return table(base(), part{0, 5, sub}) }

// ask is a question to Variant and its answer.
type ask struct{ code, selector, glyph, whose int }

// varies: each question has its answer, and so it does by the model.
func varies(t *testing.T, name string, b []byte, glyphs int, asks ...ask) {
	t.Helper()
	m := taken(t, name, b, glyphs)
	second, e := readModel(b, glyphs)
	if e != 0 {
		t.Fatalf("%s: the model answers %v", name, e)
	}
	for _, a := range asks {
		if g, k := m.Variant(a.code, a.selector); g != a.glyph || k != a.whose {
			t.Errorf("%s: Variant(%d, %d) is %d, %d; not %d, %d", name, a.code, a.selector, g, k, a.glyph, a.whose)
		}
		if g, k := second.variant(a.code, a.selector); g != a.glyph || k != a.whose {
			t.Errorf("%s: the model's Variant(%d, %d) is %d, %d; not %d, %d", name, a.code, a.selector, g, k, a.glyph, a.whose)
		}
	}
}

// P5.5: a glyph of its own, a plain range, neither; selectors that there are and that there aren't.
func TestVariant(t *testing.T) {
	b := picked(form14(
		choice{0, [][2]int{{97, 0}}, nil},
		choice{65024, [][2]int{{97, 2}, {105, 0}, {110, 1}}, [][2]int{{98, 50}, {104, 51}, {200, 52}}},
		choice{65025, nil, [][2]int{{97, 8}}},
		choice{65026, nil, nil},
		choice{16777215, [][2]int{{0, 255}}, [][2]int{{0, 7}}},
	))
	varies(t, "variants", b, 300,
		ask{97, 0, 1, 1}, ask{98, 0, 0, 0}, ask{96, 0, 0, 0},
		ask{96, 65024, 0, 0}, ask{97, 65024, 1, 1}, ask{98, 65024, 50, 2}, ask{99, 65024, 3, 1}, ask{100, 65024, 0, 0}, ask{103, 65024, 0, 0}, ask{104, 65024, 51, 2},
		ask{105, 65024, 9, 1}, ask{106, 65024, 0, 0}, ask{110, 65024, 14, 1}, ask{111, 65024, 15, 1}, ask{112, 65024, 0, 0}, ask{200, 65024, 52, 2}, ask{201, 65024, 0, 0},
		ask{97, 65025, 8, 2}, ask{98, 65025, 0, 0},
		ask{97, 65026, 0, 0}, ask{97, 65027, 0, 0}, ask{97, 65023, 0, 0}, ask{97, 1, 0, 0},
		ask{0, 16777215, 7, 2}, ask{1, 16777215, 0, 1}, ask{97, 16777215, 1, 1}, ask{196, 16777215, 100, 1}, ask{197, 16777215, 0, 1}, ask{255, 16777215, 0, 1}, ask{256, 16777215, 0, 0},
		ask{97, 16777216, 0, 0}, ask{97, -1, 0, 0},
	)
	// Without selectors there is nothing.
	varies(t, "no selectors", table(base()), 300, ask{97, 0, 0, 0}, ask{97, 65024, 0, 0}, ask{-1, -1, 0, 0})
	varies(t, "none of them", picked(form14()), 300, ask{97, 0, 0, 0}, ask{97, 65024, 0, 0})
	varies(t, "lists without rows", picked(form14(choice{9, [][2]int{}, [][2]int{}})), 300, ask{97, 9, 0, 0}, ask{0, 9, 0, 0}, ask{0, 0, 0, 0})
	// The codes' own glyphs are as they were.
	if m := taken(t, "variants", b, 300); m.Glyph(98) != 2 || m.Glyph(200) != 0 || m.Glyph(65024) != 0 || m.Form() != 6 {
		t.Error("Glyph")
	}
}

// P5.5: glyphs that are just below glyphs, and that aren't.
func TestVariantGlyphs(t *testing.T) {
	b := picked(form14(choice{7, [][2]int{{100, 9}}, [][2]int{{97, 9}, {98, 10}, {99, 11}, {101, 0}, {102, 65535}, {103, 4095}, {104, 4096}}}))
	varies(t, "10 glyphs", b, 10, ask{97, 7, 9, 2}, ask{98, 7, 0, 2}, ask{99, 7, 0, 2}, ask{100, 7, 4, 1}, ask{101, 7, 0, 2}, ask{102, 7, 0, 2}, ask{103, 7, 0, 2},
		ask{105, 7, 9, 1}, ask{106, 7, 0, 1}, ask{107, 7, 0, 1}, ask{110, 7, 0, 0})
	varies(t, "11 glyphs", b, 11, ask{97, 7, 9, 2}, ask{98, 7, 10, 2}, ask{99, 7, 0, 2}, ask{106, 7, 10, 1}, ask{107, 7, 0, 1})
	varies(t, "4096 glyphs", b, 4096, ask{99, 7, 11, 2}, ask{102, 7, 0, 2}, ask{103, 7, 4095, 2}, ask{104, 7, 0, 2})
	varies(t, "1 glyph", b, 1, ask{97, 7, 0, 2}, ask{100, 7, 0, 1}, ask{101, 7, 0, 2})
}

// P5.5: codes that are no CODE, and numbers near the ends of 64 bits.
func TestVariantNoCode(t *testing.T) {
	b := table(part{3, 10, groups(13, group{0, 1114111, 3})}, part{0, 5, form14(choice{
		7, [][2]int{{0, 0}, {1114110, 3}, {16777000, 0}, {16777215, 255}}, [][2]int{{1114111, 2}, {1114115, 4}, {16777214, 5}},
	}, choice{16777215, [][2]int{{16777215, 0}}, [][2]int{{16777215, 6}}})})
	varies(t, "no CODE", b, 99,
		ask{0, 7, 3, 1}, ask{1, 7, 0, 0}, ask{1114109, 7, 0, 0}, ask{1114110, 7, 3, 1}, ask{1114111, 7, 2, 2}, ask{1114112, 7, 0, 1}, ask{1114113, 7, 0, 1}, ask{1114114, 7, 0, 0},
		ask{1114115, 7, 4, 2}, ask{16777000, 7, 0, 1}, ask{16777001, 7, 0, 0}, ask{16777214, 7, 5, 2}, ask{16777215, 7, 0, 1}, ask{16777216, 7, 0, 1}, ask{16777470, 7, 0, 1}, ask{16777471, 7, 0, 0},
		ask{16777215, 16777215, 6, 2}, ask{16777216, 16777215, 0, 0},
	)
	m := taken(t, "no CODE", b, 99)
	for _, n := range ends() {
		for _, s := range []int{7, 0, 16777215} {
			g, k := m.Variant(n, s)
			if in := s == 7 && n >= 16777215 && n <= 16777470; g != 0 || in != (k == 1) || !in && k != 0 {
				t.Error(n, s, g, k)
			}
		}
		for _, c := range append(ends(), 0, 7, 97, 1114111) {
			if g, k := m.Variant(c, n); g != 0 || k != 0 {
				t.Error(c, n, g, k)
			}
		}
	}
}

// P5.4: the form of selectors.
func TestSelectorsForm(t *testing.T) {
	right := form14(choice{7, nil, [][2]int{{97, 8}}})
	taken(t, "form 14", picked(right), 9)
	for _, form := range []int{0, 1, 4, 6, 12, 13, 15, 14 << 8, 65535} {
		sub := slices.Clone(right)
		copy(sub, u16s(form))
		refused(t, fmt.Sprint("form ", form), picked(sub), 9, 52)
		refused(t, fmt.Sprint("form and no more ", form), picked(u16s(form)), 9, 52)
		refused(t, fmt.Sprint("form, many ", form), picked(join(u16s(form), filler(4), u32s(4097))), 9, 52)
	}
	refused(t, "no form", picked(nil), 9, 51)
	refused(t, "half a form", picked([]byte{0}), 9, 51)
	refused(t, "half a form that would be another", picked([]byte{1}), 9, 51)
}

// P5.4: just long enough, and with each number of bytes less.
func TestSelectorsTooShort(t *testing.T) {
	for i, sub := range [][]byte{
		form14(), form14(choice{7, nil, nil}), form14(choice{7, [][2]int{{97, 2}, {100, 3}}, nil}), form14(choice{7, nil, [][2]int{{97, 2}, {100, 3}}}),
		form14(choice{7, [][2]int{}, nil}), form14(choice{7, nil, [][2]int{}}),
		form14(choice{7, [][2]int{{97, 2}}, [][2]int{{97, 2}}}, choice{8, nil, nil}, choice{9, [][2]int{{97, 2}}, [][2]int{{97, 2}}}),
	} {
		b := picked(sub)
		taken(t, fmt.Sprint(i), b, 9)
		taken(t, fmt.Sprint(i, " and a byte more"), append(slices.Clone(b), 1), 9)
		for n := range sub {
			refused(t, fmt.Sprint(i, " of bytes ", n), b[:len(b)-len(sub)+n], 9, 51)
		}
	}
}

// P5.4: selectors in order, and how many there may be.
func TestSelectorsOrder(t *testing.T) {
	for name, list := range map[string][]choice{
		"equal": {{7, nil, nil}, {7, nil, nil}}, "0 twice": {{0, nil, nil}, {0, nil, nil}}, "falling": {{8, nil, nil}, {7, nil, nil}},
		"falling at last": {{7, nil, nil}, {9, nil, nil}, {8, nil, nil}}, "the greatest twice": {{16777215, nil, nil}, {16777215, nil, nil}}, "falling in the high byte": {{65536, nil, nil}, {65535, nil, nil}},
	} {
		refused(t, name, picked(form14(list...)), 9, 51)
	}
	var list []choice
	for i := range 4097 {
		list = append(list, choice{code: 3 * i})
	}
	list[4095].own = [][2]int{{97, 8}}
	b := picked(form14(list[:4096]...))
	varies(t, "4096 selectors", b, 9, ask{97, 3 * 4095, 8, 2}, ask{97, 3 * 4094, 0, 0})
	refused(t, "4096 selectors, a byte less", b[:len(b)-1], 9, 51)
	refused(t, "4097 selectors", picked(form14(list...)), 9, 53)
	list[1].code = 0
	refused(t, "4097 selectors, one wrong", picked(form14(list...)), 9, 53)
	refused(t, "4096 selectors, one wrong", picked(form14(list[:4096]...)), 9, 51)
	for _, n := range []int{4097, 1 << 16, 1 << 31, 1<<32 - 1} {
		refused(t, fmt.Sprint(n, " selectors that aren't there"), picked(join(u16s(14), filler(4), u32s(n))), 9, 53)
	}
	for _, n := range []int{1, 4096} {
		refused(t, fmt.Sprint(n, " selectors that aren't there"), picked(join(u16s(14), filler(4), u32s(n))), 9, 51)
	}
}

// P5.4: plain ranges and own glyphs in order.
func TestListsOrder(t *testing.T) {
	for name, list := range map[string][][2]int{
		"start is the end ahead": {{5, 3}, {8, 0}}, "start below it": {{5, 3}, {7, 9}}, "equal": {{5, 0}, {5, 0}}, "0 twice": {{0, 0}, {0, 0}}, "falling": {{5, 0}, {4, 0}},
		"last": {{5, 0}, {6, 0}, {7, 255}, {262, 0}}, "the greatest": {{16777215, 0}, {16777215, 0}}, "end beyond three bytes": {{16777215, 255}, {0, 0}},
	} {
		refused(t, "plain: "+name, picked(form14(choice{7, list, nil})), 9, 51)
		refused(t, "plain, second: "+name, picked(form14(choice{6, nil, nil}, choice{7, list, nil})), 9, 51)
	}
	for name, list := range map[string][][2]int{
		"equal": {{5, 0}, {5, 1}}, "0 twice": {{0, 0}, {0, 0}}, "falling": {{5, 0}, {4, 0}}, "last": {{5, 9}, {6, 9}, {6, 9}}, "the greatest": {{16777215, 0}, {16777215, 0}},
	} {
		refused(t, "own: "+name, picked(form14(choice{7, nil, list})), 9, 51)
		refused(t, "own, second: "+name, picked(form14(choice{6, nil, nil}, choice{7, nil, list})), 9, 51)
	}
	// One just above the other; both lists may have one code; two selectors may have the same.
	varies(t, "just above", picked(form14(choice{7, [][2]int{{97, 3}, {101, 0}}, [][2]int{{97, 8}, {98, 7}}}, choice{8, [][2]int{{97, 3}}, [][2]int{{97, 6}}})), 9,
		ask{97, 7, 8, 2}, ask{98, 7, 7, 2}, ask{99, 7, 3, 1}, ask{101, 7, 5, 1}, ask{102, 7, 0, 0}, ask{97, 8, 6, 2}, ask{98, 8, 2, 1}, ask{101, 8, 0, 0})
}

// rising: n rows of a list, from a code on.
func rising(from, n int) [][2]int {
	var out [][2]int
	for i := range n {
		out = append(out, [2]int{from + i, 0})
	}
	return out
}

// P5.4: plain ranges and own glyphs are together at most MaxGroups, over all selectors.
func TestListsMany(t *testing.T) {
	for _, c := range []struct {
		name string
		list []choice // together 4096
		add  func(list []choice)
	}{
		{"plain", []choice{{7, rising(97, 4096), nil}}, func(l []choice) { l[0].plain = rising(97, 4097) }},
		{"own", []choice{{7, nil, rising(97, 4096)}}, func(l []choice) { l[0].own = rising(97, 4097) }},
		{"plain and own", []choice{{7, rising(97, 4000), rising(97, 96)}}, func(l []choice) { l[0].own = rising(97, 97) }},
		{"plain and own, plain", []choice{{7, rising(97, 96), rising(97, 4000)}}, func(l []choice) { l[0].plain = rising(97, 97) }},
		{"plain, plain", []choice{{7, rising(97, 2048), nil}, {8, rising(97, 2048), nil}}, func(l []choice) { l[1].plain = rising(97, 2049) }},
		{"own, own", []choice{{7, nil, rising(97, 2048)}, {8, nil, rising(97, 2048)}}, func(l []choice) { l[1].own = rising(97, 2049) }},
		{"own, plain", []choice{{7, nil, rising(97, 4095)}, {8, rising(97, 1), nil}}, func(l []choice) { l[1].plain = rising(97, 2) }},
		{"plain, own", []choice{{7, rising(97, 4095), nil}, {8, nil, rising(97, 1)}}, func(l []choice) { l[1].own = rising(97, 2) }},
		{"four", []choice{{7, rising(97, 1024), rising(97, 1024)}, {8, rising(97, 1024), rising(97, 1024)}}, func(l []choice) { l[0].plain = rising(97, 1025) }},
		{"a last one", []choice{{7, rising(97, 4096), nil}, {8, [][2]int{}, [][2]int{}}}, func(l []choice) { l[1].own = rising(97, 1) }},
	} {
		taken(t, c.name, picked(form14(c.list...)), 9)
		c.add(c.list)
		refused(t, c.name+" and one more", picked(form14(c.list...)), 9, 53)
	}
	// A list that two rows lead to is counted each time.
	shared := join(u16s(14), filler(4), u32s(2), u24(7), u32s(32, 0), u24(8), u32s(32, 0), u32s(2048))
	for _, r := range rising(97, 2048) {
		shared = join(shared, u24(r[0]), []byte{0})
	}
	varies(t, "shared", picked(shared), 9, ask{97, 7, 1, 1}, ask{98, 8, 2, 1}, ask{97 + 2047, 8, 0, 1}, ask{97 + 2048, 8, 0, 0})
	thrice := join(u16s(14), filler(4), u32s(3), u24(7), u32s(43, 0), u24(8), u32s(43, 0), u24(9), u32s(43, 0), shared[32:])
	refused(t, "shared by three", picked(thrice), 9, 53)
}

// lead: selectors whose rows lead to these places, and bytes behind them.
func lead(places [][2]int, behind ...byte) []byte {
	out := join(u16s(14), filler(4), u32s(len(places)))
	for i, p := range places {
		out = join(out, u24(7+i), u32s(p[0], p[1]))
	}
	return join(out, behind)
}

// P5.4: places of lists: beyond the table, in the rows, at numbers that aren't there.
func TestListsPlaces(t *testing.T) {
	for _, place := range []int{18, 19, 20, 21, 22, 1000, 1 << 31, 1<<32 - 4, 1<<32 - 1} {
		refused(t, fmt.Sprint("plain at ", place), picked(lead([][2]int{{place, 0}})), 9, 51)
		refused(t, fmt.Sprint("own at ", place), picked(lead([][2]int{{0, place}})), 9, 51)
	}
	// Places count from the subtable's beginning: at 21 behind one row.
	varies(t, "places", picked(lead([][2]int{{21, 29}}, 0, 0, 0, 1, 0, 0, 97, 1, 0, 0, 0, 1, 0, 0, 99, 0, 5)), 9, ask{97, 7, 1, 1}, ask{98, 7, 2, 1}, ask{99, 7, 5, 2}, ask{96, 7, 0, 0})
	// A place of 1 is one like any other: the bytes there, 14 and three that fill, are too great a number.
	refused(t, "place 1", picked(lead([][2]int{{1, 0}})), 9, 53)
	refused(t, "place 1, own", picked(lead([][2]int{{0, 1}})), 9, 53)
	for _, n := range []int{4097, 1 << 31, 1<<32 - 1} {
		refused(t, fmt.Sprint("plain, many that aren't there ", n), picked(lead([][2]int{{21, 0}}, u32s(n)...)), 9, 53)
		refused(t, fmt.Sprint("own, many that aren't there ", n), picked(lead([][2]int{{0, 21}}, u32s(n)...)), 9, 53)
	}
	refused(t, "plain that aren't there", picked(lead([][2]int{{21, 0}}, u32s(4096)...)), 9, 51)
	refused(t, "own that aren't there", picked(lead([][2]int{{0, 21}}, u32s(4096)...)), 9, 51)
}

// P5.4: of two faults the first, row by row.
func TestListsFirstFault(t *testing.T) {
	many, few := u32s(4097), u32s(1)
	// Two rows: their bytes end at 32.
	refused(t, "plain many, own beyond", picked(lead([][2]int{{21, 99}}, many...)), 9, 53)
	refused(t, "plain beyond, own many", picked(lead([][2]int{{99, 21}}, many...)), 9, 51)
	refused(t, "plain cut off, own many", picked(lead([][2]int{{25, 21}}, join(many, few)...)), 9, 51)
	cut := lead([][2]int{{11, 0}}) // the bytes at 11 are the number 458752
	copy(cut[6:], u32s(2))
	refused(t, "first row many, second cut off", picked(cut), 9, 53)
	refused(t, "first row beyond, second many", picked(lead([][2]int{{99, 0}, {32, 0}}, many...)), 9, 51)
	refused(t, "first row many, second beyond", picked(lead([][2]int{{0, 32}, {99, 0}}, many...)), 9, 53)
	// A selector that doesn't rise is told ahead of its lists, behind the lists of the row ahead.
	equal := lead([][2]int{{0, 0}, {32, 0}}, many...)
	copy(equal[21:], u24(7))
	refused(t, "equal, then many", picked(equal), 9, 51)
	equal = lead([][2]int{{32, 0}, {0, 0}}, many...)
	copy(equal[21:], u24(7))
	refused(t, "many, then equal", picked(equal), 9, 53)
	// Ranges out of order are told ahead of the own glyphs' number.
	refused(t, "out of order, own many", picked(lead([][2]int{{25, 21}}, join(many, u32s(2), u24(5), []byte{0}, u24(5), []byte{0})...)), 9, 51)
}
