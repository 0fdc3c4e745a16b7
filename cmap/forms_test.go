package cmap_test

import (
	"fmt"
	"slices"
	"testing"

	"serif/api"
)

// finds: each code has the glyph, and so it does by the model.
func finds(t *testing.T, name string, b []byte, glyphs int, want map[int]int) {
	t.Helper()
	m := taken(t, name, b, glyphs)
	second, e := readModel(b, glyphs)
	if e != 0 {
		t.Fatalf("%s: the model answers %v", name, e)
	}
	if m.Form() != second.form() {
		t.Errorf("%s: the form is %d", name, m.Form())
	}
	for code, glyph := range want {
		if got := m.Glyph(code); got != glyph || second.glyph(code) != glyph {
			t.Errorf("%s: the code %d has %d (the model: %d), not %d", name, code, got, second.glyph(code), glyph)
		}
	}
}

// P5.2: each form just long enough, and with each number of bytes less.
func TestFormsTooShort(t *testing.T) {
	for form, sub := range map[int][]byte{
		0: form0(), 4: form4([]segment{{65, 66, 1, 0}, {70, 80, 2, 0}}), 6: form6(65, 1, 2, 3), 12: groups(12, group{1, 2, 3}, group{4, 5, 6}), 13: groups(13, group{1, 2, 3}),
	} {
		if m := taken(t, fmt.Sprint(form), one(sub), 9); m.Form() != form {
			t.Error(form, m.Form())
		}
		taken(t, fmt.Sprint(form, " and a byte more"), one(append(sub, 1)), 9)
		for n := range sub {
			refused(t, fmt.Sprint("form ", form, " of bytes ", n), one(sub[:n]), 9, 51)
		}
	}
	taken(t, "form 6 of none", one(form6(65)), 9)
	refused(t, "form 6 of none, a byte less", one(form6(65)[:9]), 9, 51)
	taken(t, "form 12 of none", one(groups(12)), 9)
	refused(t, "form 12 of none, a byte less", one(groups(12)[:15]), 9, 51)
	taken(t, "form 13 of none", one(groups(13)), 9)
}

// P5.2: forms that aren't known, however long.
func TestFormsUnknown(t *testing.T) {
	for form := range 300 {
		switch form {
		case 0, 4, 6, 12, 13:
		default:
			refused(t, fmt.Sprint("form ", form), one(u16s(form)), 9, 52)
			refused(t, fmt.Sprint("long form ", form), one(join(u16s(form), filler(600))), 9, 52)
		}
	}
	for _, form := range []int{256, 1024, 1536, 3072, 3328, 32768, 65535} {
		refused(t, fmt.Sprint("form ", form), one(u16s(form)), 9, 52)
	}
	refused(t, "form 14 is for selectors", table(part{3, 10, form14()}), 9, 52)
}

// P5.2, P5.3: form 0.
func TestForm0(t *testing.T) {
	b := one(form0())
	want := map[int]int{-1: 0, 256: 0, 257: 0, 511: 0, 65535: 0, 1114111: 0}
	low := map[int]int{-1: 0, 256: 0}
	for c := range 256 {
		want[c] = (7*c + 3) % 256
		low[c] = want[c]
		if low[c] >= 100 {
			low[c] = 0
		}
	}
	finds(t, "form 0", b, 256, want)
	finds(t, "form 0, many glyphs", join(b, filler(10)), 4096, want)
	finds(t, "form 0, 100 glyphs", b, 100, low)
}

// P5.2: the number of form 4's segments.
func TestForm4Number(t *testing.T) {
	right := form4([]segment{{65, 66, 1, 0}, {70, 80, 2, 0}})
	for _, twice := range []int{0, 1, 3, 5, 8191, 8193, 8195, 65535} {
		sub := slices.Clone(right)
		copy(sub[6:], u16s(twice))
		refused(t, fmt.Sprint("twice the segments ", twice), one(sub), 9, 51)
		refused(t, fmt.Sprint("twice the segments and no more ", twice), one(sub[:8]), 9, 51)
		refused(t, fmt.Sprint("twice the segments, long ", twice), one(join(sub, make([]byte, 8*65536))), 9, 51)
	}
	for _, twice := range []int{8194, 8196, 32768, 65534} {
		sub := slices.Clone(right)
		copy(sub[6:], u16s(twice))
		refused(t, fmt.Sprint("twice the segments ", twice), one(sub), 9, 53)
		refused(t, fmt.Sprint("twice the segments and no more ", twice), one(sub[:8]), 9, 53)
		refused(t, fmt.Sprint("twice the segments, long ", twice), one(join(sub, make([]byte, 8*65536))), 9, 53)
	}
	for _, twice := range []int{6, 8, 8192} {
		sub := slices.Clone(right)
		copy(sub[6:], u16s(twice))
		refused(t, fmt.Sprint("more segments than there are ", twice), one(sub), 9, 51)
	}
}

// P5.2: as many segments as there may be, and one more.
func TestForm4Many(t *testing.T) {
	var list []segment
	for i := range 4097 {
		list = append(list, segment{15 * i, 15*i + 9, 1 + i - 15*i + 65536, 0})
	}
	b := one(form4(list[:4096]))
	want := map[int]int{61439: 0, 61440: 0, 65535: 0}
	for i := range 4096 {
		for k, glyph := range []int{1 + i, 2 + i, 3 + i} {
			want[15*i+k] = glyph
			if glyph > 4095 {
				want[15*i+k] = 0
			}
		}
		want[15*i+10], want[15*i+14] = 0, 0
	}
	finds(t, "4096 segments", b, 4096, want)
	refused(t, "4096 segments, a byte less", b[:len(b)-1], 4096, 51)
	refused(t, "4097 segments", one(form4(list)), 4096, 53)
	list[4095].end = list[4094].end
	list[4095].start = 0
	refused(t, "the last of 4096 doesn't rise", one(form4(list[:4096])), 4096, 51)
	refused(t, "4097 and a wrong one", one(form4(list)), 4096, 53)
}

// P5.2: segments in order.
func TestForm4Order(t *testing.T) {
	for name, list := range map[string][]segment{
		"equal ends":          {{1, 5, 0, 0}, {5, 5, 0, 0}},
		"equal ends of 0":     {{0, 0, 0, 0}, {0, 0, 0, 0}},
		"equal ends of 65535": {{1, 65535, 0, 0}, {65535, 65535, 0, 0}},
		"falling ends":        {{1, 5, 0, 0}, {4, 4, 0, 0}},
		"falling at last":     {{1, 5, 0, 0}, {6, 9, 0, 0}, {7, 8, 0, 0}},
		"start above end":     {{6, 5, 0, 0}},
		"start far above end": {{65535, 0, 0, 0}},
		"start above, second": {{1, 5, 0, 0}, {10, 9, 0, 0}},
		"start above, last":   {{1, 5, 0, 0}, {7, 9, 0, 0}, {65535, 65534, 0, 0}},
	} {
		refused(t, name, one(form4(list)), 9, 51)
	}
	// The first end may be 0, a start may be its end, and starts needn't rise: the first segment that doesn't end below a code counts.
	finds(t, "least", one(form4([]segment{{0, 0, 3, 0}})), 9, map[int]int{0: 3, 1: 0})
	finds(t, "overlapping", one(form4([]segment{{10, 12, 65536 - 9, 0}, {5, 20, 65536 - 4, 0}, {0, 30, 0, 0}})), 99,
		map[int]int{4: 0, 5: 0, 9: 0, 10: 1, 11: 2, 12: 3, 13: 9, 20: 16, 21: 21, 30: 30, 31: 0})
	finds(t, "the first ends below", one(form4([]segment{{2, 3, 1, 0}, {2, 8, 2, 0}})), 99, map[int]int{1: 0, 2: 3, 3: 4, 4: 6, 8: 10, 9: 0})
}

// P5.2: deltas, modulo 65536.
func TestForm4Deltas(t *testing.T) {
	finds(t, "delta", one(form4([]segment{{65, 70, 65536 - 64, 0}, {65530, 65535, 10, 0}})), 9,
		map[int]int{64: 0, 65: 1, 66: 2, 70: 6, 71: 0, 65529: 0, 65530: 4, 65533: 7, 65534: 8, 65535: 0, 65536: 0, 65541: 0, 131066: 0, 131071: 0})
	finds(t, "delta 0", one(form4([]segment{{0, 100, 0, 0}})), 9, map[int]int{0: 0, 1: 1, 8: 8, 9: 0, 100: 0})
	finds(t, "to 0 and on", one(form4([]segment{{0, 65535, 65535, 0}})), 4096, map[int]int{0: 0, 1: 0, 2: 1, 4096: 4095, 4097: 0, 65535: 0, 65536: 0})
	finds(t, "beyond 65535", one(form4([]segment{{0, 65535, 65530, 0}})), 4096, map[int]int{5: 0, 6: 0, 7: 1, 4101: 4095, 4102: 0})
}

// P5.2: offsets that lead to a number, to a 0, to the table's last bytes and beyond it.
func TestForm4Offsets(t *testing.T) {
	// Two segments: the second one's offset stands at 30, the numbers begin at 32: four bytes on from the first one's, two from the second one's.
	list := []segment{{65, 67, 0, 4}, {80, 90, 65533, 8}}
	b := one(form4(list, 5, 0, 7, 9, 3, 2, 65535))
	want := map[int]int{64: 0, 65: 5, 66: 0, 67: 7, 68: 0, 79: 0, 80: 6, 81: 0, 82: 0, 83: 0, 84: 0, 90: 0, 91: 0}
	finds(t, "offsets", b, 4096, want)
	// A glyph of 0 that the delta makes, one that goes beyond 65535, and one that wraps round to below the glyphs.
	b = one(form4([]segment{{10, 14, 65530, 2}}, 6, 7, 5, 0, 4096))
	finds(t, "offsets and a delta", b, 4096, map[int]int{10: 0, 11: 1, 12: 0, 13: 0, 14: 4090})
	b = one(form4([]segment{{10, 14, 10, 2}}, 65530, 65526, 65525, 0, 1))
	finds(t, "offsets beyond 65535", b, 4096, map[int]int{10: 4, 11: 0, 12: 0, 13: 0, 14: 11})
	// The numbers end within the segment, in one case in the middle of a number.
	b = one(form4([]segment{{10, 14, 3, 2}}, 4, 5))
	finds(t, "the table ends", b, 99, map[int]int{9: 0, 10: 7, 11: 8, 12: 0, 13: 0, 14: 0, 15: 0})
	finds(t, "a number is cut off", b[:len(b)-1], 99, map[int]int{10: 7, 11: 0, 12: 0})
	finds(t, "a byte of a third number", append(slices.Clone(b), 9), 99, map[int]int{10: 7, 11: 8, 12: 0})
	// An odd offset, the least one, and the greatest one.
	b = one(form4([]segment{{10, 11, 0, 1}}, 256*7+1, 256*3))
	finds(t, "offset 1", b, 4096, map[int]int{10: 256 + 7, 11: 256 + 3})
	far := join(form4([]segment{{10, 11, 1, 65535}}), filler(65535-2), u16s(6, 7))
	finds(t, "offset 65535", one(far), 99, map[int]int{10: 7, 11: 8})
	finds(t, "offset 65535 beyond", one(far[:len(far)-2]), 99, map[int]int{10: 7, 11: 0})
	finds(t, "offset 65535, far beyond", one(form4([]segment{{0, 65535, 1, 65535}})), 99, map[int]int{0: 0, 10: 0, 65535: 0})
	// A number may lie in another subtable, behind the length that the subtable tells.
	b = table(part{3, 1, form4([]segment{{10, 11, 0, 2}})}, part{1, 0, u16s(8, 3)})
	finds(t, "in another subtable", b, 99, map[int]int{10: 8, 11: 3})
	// An offset of 0 leads nowhere, not to itself: the delta alone counts.
	finds(t, "offset 0", one(form4([]segment{{10, 11, 5, 0}})), 99, map[int]int{10: 15, 11: 16})
}

// P5.2: form 6.
func TestForm6(t *testing.T) {
	finds(t, "form 6", one(form6(65, 3, 0, 8, 9, 65535, 1)), 9, map[int]int{-1: 0, 0: 0, 64: 0, 65: 3, 66: 0, 67: 8, 68: 0, 69: 0, 70: 1, 71: 0, 1114111: 0})
	none := map[int]int{64: 0, 65: 0, 66: 0}
	finds(t, "no codes", one(form6(65)), 9, none)
	finds(t, "no codes, bytes behind", one(join(form6(65), u16s(3, 3, 3))), 9, none)
	finds(t, "from 0 on", one(form6(0, 3, 4)), 9, map[int]int{0: 3, 1: 4, 2: 0})
	finds(t, "beyond 65535", one(form6(65535, 3, 4, 5)), 9, map[int]int{65534: 0, 65535: 3, 65536: 4, 65537: 5, 65538: 0, 0: 0, 1: 0})
	long := make([]int, 65535)
	for i := range long {
		long[i] = 1 + i%4095
	}
	b := one(form6(65535, long...))
	finds(t, "as many as there may be", b, 4096, map[int]int{65534: 0, 65535: 1, 65536: 2, 65535 + 65534: 1 + 65534%4095, 131070: 0})
	refused(t, "a byte less", b[:len(b)-1], 4096, 51)
}

// P5.2: forms 12 and 13.
func TestGroups(t *testing.T) {
	list := []group{{0, 0, 1}, {5, 8, 2}, {9, 9, 7}, {100, 200, 4000}, {1114000, 1114111, 60}}
	finds(t, "form 12", one(groups(12, list...)), 4096, map[int]int{-1: 0, 0: 1, 1: 0, 4: 0, 5: 2, 6: 3, 8: 5, 9: 7, 10: 0, 99: 0, 100: 4000, 195: 4095, 196: 0, 200: 0, 201: 0,
		1113999: 0, 1114000: 60, 1114111: 171, 1114112: 0})
	finds(t, "form 13", one(groups(13, list...)), 4096, map[int]int{-1: 0, 0: 1, 1: 0, 4: 0, 5: 2, 6: 2, 8: 2, 9: 7, 10: 0, 99: 0, 100: 4000, 195: 4000, 196: 4000, 200: 4000, 201: 0,
		1113999: 0, 1114000: 60, 1114111: 60, 1114112: 0})
	whole := group{0, 1114111, 0}
	finds(t, "all codes", one(groups(12, whole)), 4096, map[int]int{0: 0, 1: 1, 4095: 4095, 4096: 0, 65536: 0, 65537: 0, 1114111: 0, 1114112: 0})
	whole.glyph = 9
	finds(t, "all codes, one glyph", one(groups(13, whole)), 10, map[int]int{-1: 0, 0: 9, 1114111: 9, 1114112: 0, 1 << 24: 0})
	for _, form := range []int{12, 13} {
		finds(t, "none", one(groups(form)), 9, map[int]int{0: 0, 65: 0})
		// A glyph near the end of 32 bits doesn't come round to a low one.
		finds(t, "great glyph", one(groups(form, group{5, 20, 1<<32 - 1})), 4096, map[int]int{5: 0, 6: 0, 7: 0, 20: 0})
		finds(t, "glyph of 65536", one(groups(form, group{5, 20, 65536}, group{21, 22, 65535})), 4096, map[int]int{5: 0, 6: 0, 21: 0, 22: 0})
	}
}

// P5.2: groups that aren't right.
func TestGroupsWrong(t *testing.T) {
	for _, form := range []int{12, 13} {
		for name, list := range map[string][]group{
			"start above end":         {{6, 5, 0}},
			"start above end, second": {{1, 5, 0}, {8, 7, 0}},
			"end above MaxCode":       {{5, 1114112, 0}},
			"start above MaxCode too": {{1114112, 1114112, 0}},
			"great end":               {{5, 1<<32 - 1, 0}},
			"great start":             {{1<<32 - 1, 5, 0}},
			"great start and end":     {{1<<32 - 1, 1<<32 - 1, 0}},
			"start is the end ahead":  {{1, 5, 0}, {5, 6, 0}},
			"start below it":          {{1, 5, 0}, {4, 6, 0}},
			"within":                  {{1, 9, 0}, {2, 3, 0}},
			"out of order":            {{10, 12, 0}, {1, 2, 0}},
			"twice":                   {{10, 12, 0}, {10, 12, 0}},
			"0 twice":                 {{0, 0, 0}, {0, 0, 0}},
			"last":                    {{1, 2, 0}, {3, 4, 0}, {4, 5, 0}},
		} {
			refused(t, fmt.Sprint(form, " ", name), one(groups(form, list...)), 9, 51)
		}
		taken(t, "end of MaxCode", one(groups(form, group{1114111, 1114111, 3})), 9)
		taken(t, "start just above the end ahead", one(groups(form, group{1, 5, 0}, group{6, 6, 0})), 9)
	}
}

// P5.2: as many groups as there may be, and one more.
func TestGroupsMany(t *testing.T) {
	for _, form := range []int{12, 13} {
		var list []group
		for i := range 4097 {
			list = append(list, group{3 * i, 3*i + 1, i})
		}
		want := map[int]int{-1: 0}
		for i := range 4096 {
			want[3*i], want[3*i+1], want[3*i+2] = i, (i+13-form)%4096, 0
		}
		b := one(groups(form, list[:4096]...))
		finds(t, "4096 groups", b, 4096, want)
		refused(t, "4096 groups, a byte less", b[:len(b)-1], 4096, 51)
		refused(t, "4097 groups", one(groups(form, list...)), 4096, 53)
		list[0].start = 2
		refused(t, "4096 groups, the first wrong", one(groups(form, list[:4096]...)), 4096, 51)
		refused(t, "4097 groups, the first wrong", one(groups(form, list...)), 4096, 53)
		for _, n := range []int{4097, 65536, 1 << 31, 1<<32 - 1} {
			refused(t, fmt.Sprint(n, " groups that aren't there"), one(join(groups(form)[:12], u32s(n))), 9, 53)
		}
		for _, n := range []int{1, 2, 4096} {
			refused(t, fmt.Sprint(n, " groups that aren't there"), one(join(groups(form)[:12], u32s(n))), 9, 51)
		}
	}
}

// P5.3: a glyph just below glyphs, and one that isn't; codes that are none.
func TestGlyph(t *testing.T) {
	all := map[int][]byte{
		0: form0(), 4: form4([]segment{{0, 255, 0, 0}, {65535, 65535, 1, 0}}), 6: form6(0, 0, 1, 2, 3, 4, 5, 6, 7, 8, 9), 12: groups(12, group{0, 1114111, 0}), 13: groups(13, group{0, 3, 9}, group{4, 1114111, 2}),
	}
	for form, sub := range all {
		for _, glyphs := range []int{1, 2, 3, 8, 9, 10, 11, 4096} {
			b := one(sub)
			m := taken(t, fmt.Sprint(form), b, glyphs)
			second, e := readModel(b, glyphs)
			if e != 0 || m.Form() != form {
				t.Fatal(form, e, m.Form())
			}
			for _, c := range append(ends(), 0, 1, 2, 3, 4, 7, 8, 9, 10, 11, 254, 255, 256, 65534, 65535, 65536, 1114110, 1114111, 1114112, 1114113) {
				got := m.Glyph(c)
				if got != second.glyph(c) || got < 0 || got >= glyphs || (c < 0 || c > api.MaxCode) && got != 0 {
					t.Errorf("form %d, %d glyphs: the code %d has %d, not %d", form, glyphs, c, got, second.glyph(c))
				}
			}
		}
	}
	finds(t, "just below", one(form6(65, 8, 9, 10)), 9, map[int]int{65: 8, 66: 0, 67: 0})
	finds(t, "just below", one(form6(65, 8, 9, 10)), 10, map[int]int{65: 8, 66: 9, 67: 0})
	finds(t, "the last of all", one(form6(65, 4095, 4096)), 4096, map[int]int{65: 4095, 66: 0})
	finds(t, "one glyph", one(form6(65, 0, 1)), 1, map[int]int{65: 0, 66: 0})
}
