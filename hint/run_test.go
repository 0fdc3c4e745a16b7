package hint_test

import (
	"math"
	"slices"
	"testing"

	"serif/api"
	"serif/hint"
)

// The chapter's numbers of errors and limits.
func TestNumbers(t *testing.T) {
	if api.ErrHint != 101 || api.ErrHintKind != 102 || api.ErrHintMany != 103 || api.ErrHintFix != 104 || api.ErrHintFont != 105 {
		t.Error("errors")
	}
	limits := []int{api.MaxHintStack, api.MaxHintFuel, api.MaxHintCalls, api.MaxHintLoop, api.MaxStore, api.MaxFunctions, api.MaxTwilight, api.MaxCvt, api.MaxHintCode, api.MaxSize}
	if !slices.Equal(limits, []int{256, 10000, 16, 1000, 64, 64, 16, 1024, 4096, 65536}) {
		t.Error(limits)
	}
}

// The chapter's examples.
func TestExamples(t *testing.T) {
	hinted(t, "to the grid", plain(), row(5, 70, 40), code("B0 01 2F"), touched(moved(row(5, 70, 40), 5, 64), 1))
	leaves(t, "a sum", plain(), code("B1 00 05 B0 20 60"), 0, 37)
	leaves(t, "two numbers", plain(), code("B1 00 05"), 0, 5)
	leaves(t, "three numbers", plain(), code("B1 00 05 B0 20"), 0, 5, 32)
}

// P10.1: what a font's measures may be.
func TestMeasures(t *testing.T) {
	for _, c := range []struct {
		size, units int
		want        api.Errno
	}{
		{64, 15, 105}, {64, 16, 0}, {64, 17, 0}, {64, 16383, 0}, {64, 16384, 0}, {64, 16385, 105}, {64, 0, 105}, {64, -16, 105},
		{0, 64, 105}, {1, 64, 0}, {2, 64, 0}, {65535, 64, 0}, {65536, 64, 0}, {65537, 64, 105}, {-1, 64, 105}, {-64, -64, 105},
		{64, 1<<32 + 64, 105}, {1<<32 + 64, 64, 105}, {math.MaxInt, 64, 105}, {64, math.MinInt, 105}, {math.MinInt, 64, 105}, {64, math.MaxInt, 105},
		{1, 16384, 0}, {65536, 16, 0}, {0, 0, 105},
	} {
		z := row(5, 70)
		got, e := hint.Run(api.HintFont{Size: c.size, Units: c.units}, z, nil)
		if e != c.want || e == 0 && !same(got, z) || e != 0 && !same(got, api.Zone{}) {
			t.Error(c, got, e)
		}
	}
}

// P10.1: how many control values there may be.
func TestManyValues(t *testing.T) {
	for n, want := range map[int]api.Errno{0: 0, 1: 0, 1023: 0, 1024: 0, 1025: 105, 4096: 105} {
		if _, e := hint.Run(plain(make([]int, n)...), row(1), nil); e != want {
			t.Error(n, e)
		}
	}
	list := make([]int, 1024)
	list[1023] = 77
	leaves(t, "the last one", plain(list...), code(1023, "45"), 77)
}

// P10.1: the zone must be sound.
func TestZoneSound(t *testing.T) {
	for name, spoil := range map[string]func(z *api.Zone){
		"Cur":            func(z *api.Zone) { z.Cur = z.Cur[:1] },
		"Org":            func(z *api.Zone) { z.Org = z.Org[:1] },
		"TouchX":         func(z *api.Zone) { z.TouchX = append(z.TouchX, false) },
		"TouchY":         func(z *api.Zone) { z.TouchY = nil },
		"an end":         func(z *api.Zone) { z.Ends = []int{2} },
		"an end below 0": func(z *api.Zone) { z.Ends = []int{-1, 1} },
		"ends that fall": func(z *api.Zone) { z.Ends = []int{1, 1} },
		"no FIX was":     func(z *api.Zone) { z.Org[1].Y = maxFix + 1 },
		"no FIX is":      func(z *api.Zone) { z.Cur[0].X = -maxFix - 1 },
		"many points":    func(z *api.Zone) { *z = filled(4097) },
	} {
		z := row(5, 70)
		spoil(&z)
		refused(t, name, plain(), z, nil, 105)
		refused(t, name, with(plain(), code("2D"), nil), z, code("2D"), 105)
	}
	if z, e := hint.Run(plain(), filled(4096), code(4095, "2F")); e != 0 || !z.TouchX[4095] {
		t.Error(e)
	}
	if z, e := hint.Run(plain(), api.Zone{}, nil); e != 0 || !same(z, api.Zone{}) {
		t.Error(z, e)
	}
	far := row(maxFix, -maxFix)
	hinted(t, "the ends of FIX", plain(), far, code("B0 01 2E"), touched(far, 1))
}

// P10.1: how long the programs may be.
func TestProgramsLong(t *testing.T) {
	long, longer := times(4096, "59"), times(4097, "59")
	for _, c := range []struct {
		fpgm, prep, code []byte
		want             api.Errno
	}{
		{nil, nil, nil, 0}, {[]byte{}, []byte{}, []byte{}, 0},
		{long, nil, nil, 0}, {nil, long, nil, 0}, {nil, nil, long, 0}, {nil, long, long, 0}, {long, long, times(1808, "59"), 0},
		{longer, nil, nil, 103}, {nil, longer, nil, 103}, {nil, nil, longer, 103},
		{code("2D"), nil, longer, 103}, {code("2D"), longer, nil, 103}, {longer, code("2D"), nil, 103},
	} {
		z, e := hint.Run(with(plain(), c.fpgm, c.prep), row(5), c.code)
		if e != c.want || e == 0 && !same(z, row(5)) || e != 0 && !same(z, api.Zone{}) {
			t.Error(len(c.fpgm), len(c.prep), len(c.code), z, e)
		}
	}
}

// P10.1: control values at the size: the nearest, halves away from 0.
func TestScaledValues(t *testing.T) {
	for _, c := range []struct{ size, units, value, right int }{
		{640, 1000, 100, 64}, {640, 1000, -200, -128}, {640, 1000, 0, 0},
		{1, 64, 31, 0}, {1, 64, 32, 1}, {1, 64, 33, 1}, {1, 64, 95, 1}, {1, 64, 96, 2}, {1, 64, -31, 0}, {1, 64, -32, -1}, {1, 64, -95, -1}, {1, 64, -96, -2},
		{64, 64, maxFix, maxFix}, {64, 64, -maxFix, -maxFix}, {32, 64, 2*maxFix - 0, maxFix}, {32, 64, -2 * maxFix, -maxFix},
		{1, 16384, maxFix*16384 + 8191, maxFix}, {1, 16384, -maxFix*16384 - 8191, -maxFix}, {65536, 16, 524287, 524287 * 4096}, {65536, 16, -524287, -524287 * 4096},
	} {
		leaves(t, "scaled", api.HintFont{Size: c.size, Units: c.units, Cvt: []int{5, c.value}}, code("B0 01 45"), c.right)
	}
	for _, c := range []struct{ size, units, value int }{
		{64, 64, maxFix + 1}, {64, 64, -maxFix - 1}, {1, 16384, maxFix*16384 + 8192}, {1, 16384, -maxFix*16384 - 8192}, {65536, 16, 524288}, {65536, 16, -524288},
		{32, 64, 2*maxFix + 1}, {64, 64, math.MaxInt}, {64, 64, math.MinInt}, {1, 16384, math.MinInt}, {65536, 16, math.MaxInt}, {64, 64, 1 << 32}, {65536, 16, 1 << 60},
	} {
		f := api.HintFont{Size: c.size, Units: c.units, Cvt: []int{0, c.value, 0}}
		refused(t, "no FIX", f, row(1), nil, 104)
		refused(t, "no FIX, ahead of the programs", with(f, code("2D"), code("4F")), row(1), code("21"), 104)
	}
}

// P10.1: which of two errors is told.
func TestRunOrder(t *testing.T) {
	longer, wrong, far := times(4097, "59"), code("4F"), plain(maxFix+1)
	unsound := api.Zone{Org: make([]api.Spot, 1)}
	for i, c := range []struct {
		f    api.HintFont
		z    api.Zone
		code []byte
		want api.Errno
	}{
		{api.HintFont{Units: 15, Size: 64}, row(1), longer, 105},
		{api.HintFont{Units: 64, Size: 0}, row(1), longer, 105},
		{plain(make([]int, 1025)...), row(1), longer, 105},
		{plain(), unsound, longer, 105},
		{with(plain(), longer, nil), unsound, nil, 105},
		{with(plain(), nil, longer), unsound, nil, 105},
		{api.HintFont{Units: 15, Size: 64, Cvt: []int{maxFix}}, row(1), nil, 105},
		{far, unsound, nil, 105},
		{plain(append(make([]int, 1024), maxFix+1)...), row(1), nil, 105},
		{far, row(1), longer, 103},
		{with(far, longer, nil), row(1), nil, 103},
		{with(far, nil, longer), row(1), nil, 103},
		{far, row(1), wrong, 104},
		{with(far, wrong, nil), row(1), nil, 104},
		{with(plain(), wrong, nil), row(1), longer, 103},
		{with(plain(), wrong, code("21")), row(1), nil, 102},
		{with(plain(), code("21"), wrong), row(1), nil, 101},
		{with(plain(), nil, wrong), row(1), code("21"), 102},
		{with(plain(), nil, code("21")), row(1), wrong, 101},
		{with(plain(), code("22"), code("22")), row(1), wrong, 102},
	} {
		z, e := hint.Run(c.f, c.z, c.code)
		if e != c.want || !same(z, api.Zone{}) {
			t.Error(i, z, e)
		}
	}
}

// P10.1: the programs run in the order Fpgm, Prep, code.
func TestProgramsInOrder(t *testing.T) {
	// The store's 0-th is ten times as much, and a digit.
	next := func(digit int) []byte { return code("B1 00 00 43", 640, "63", digit, "60 42") }
	leaves(t, "order", with(plain(), next(1), next(2)), code(next(3), "B0 00 43"), 123)
}

// P10.1: Fpgm and Prep have no points in zone 1; code has the glyph's.
func TestNoGlyph(t *testing.T) {
	pointed := []string{"2E", "2F", "3C", "32", "33", "46", "47", "C0", "DF"}
	for _, op := range pointed {
		c := code("B0 00", op)
		refused(t, "Fpgm", with(plain(), c, nil), row(5), nil, 101)
		refused(t, "Prep", with(plain(), nil, c), row(5), nil, 101)
		if _, e := hint.Run(plain(), row(5), c); e != 0 {
			t.Error(op, e)
		}
	}
	for _, op := range []string{"30", "31"} {
		hinted(t, "nothing to smooth", with(plain(), code(op), code(op)), row(5), nil, row(5))
	}
	refused(t, "a function called by Fpgm", with(plain(), code(function(0, "B0 00 2E"), "B0 00 2B"), nil), row(5), nil, 101)
	hinted(t, "a function called by code", with(plain(), function(0, "B0 00 2F"), nil), row(5), code("B0 00 2B"), touched(moved(row(5), 0), 0))
}

// twilightAt: puts a point of zone 0 at a control value, where it then was and is; all other state is as it was but for rp0, rp1 and zp0.
func twilightAt(p, i int) []byte { return code("B0 00 13", p, i, "3E", "B0 01 13") }

// P10.1: zone 0 has 16 points at (0, 0) from the beginning on, and no contours.
func TestTwilight(t *testing.T) {
	for _, axis := range []string{"00", "01"} {
		for p := range 16 {
			c := code(axis, "B0 00 16", p, "46", p, "47")
			leaves(t, "twilight", plain(), c, 0, 0)
			leaves(t, "twilight", with(plain(), code(c, "21 21"), code(c, "21 21")), c, 0, 0)
		}
		for _, p := range []int{-1, 16, 17} {
			for _, op := range []string{"46", "47"} {
				c := code(axis, "B0 00 16", p, op)
				refused(t, "no such point", plain(), row(5), c, 101)
				refused(t, "no such point in Fpgm", with(plain(), c, nil), row(5), nil, 101)
			}
		}
	}
}

// P10.2: what begins anew with each program.
func TestBeginsAnew(t *testing.T) {
	// Each first program sets the state; what begins anew is asked in the next.
	for name, c := range map[string]struct {
		first, next []byte
		right       []int
	}{
		"the stack": {code("B2 01 02 03"), code("24"), []int{0}},
		"loop":      {code("B0 05 17"), code("B2 07 08 00 B0 00 3C"), []int{7, 8, 0}},
		"the way":   {code("19"), code("B0 03 68"), []int{0}},
	} {
		for range 2 {
			leaves(t, name, with(plain(), c.first, nil), c.next, c.right...)
			leaves(t, name, with(plain(), nil, c.first), c.next, c.right...)
			leaves(t, name, with(plain(), c.first, code("22")), c.next, c.right...)
		}
	}
	z := row(5, 70, 40)
	z.Org[0].Y, z.Cur[0].Y = 9, 9
	set := code("00", "B0 01 10 B0 01 11 B0 01 12")
	far := touched(moved(z, 64), 0)
	far.TouchX[0] = true
	for name, f := range map[string]api.HintFont{"Fpgm": with(plain(), set, nil), "Prep": with(plain(), nil, set)} {
		got, e := hint.Run(f, z, code("B0 00", 64, "48"))
		judged(t, "the axis behind "+name, got, e, far, 0)
		got, e = hint.Run(f, z, code("B0 01 3C"))
		judged(t, "rp0 behind "+name, got, e, touched(moved(z, 5, 5), 1), 0)
		// rp1 and rp2 are the point 0, which is moved by 11 first.
		got, e = hint.Run(f, z, code("B0 00 B0 10 48 B0 01 33"))
		judged(t, "rp1 behind "+name, got, e, touched(moved(z, 16, 81), 0, 1), 0)
		got, e = hint.Run(f, z, code("B0 00 B0 10 48 B0 01 32"))
		judged(t, "rp2 behind "+name, got, e, touched(moved(z, 16, 81), 0, 1), 0)
	}
	for _, op := range []string{"13", "14", "15", "16"} {
		set := code("B0 00", op)
		for name, f := range map[string]api.HintFont{"Fpgm": with(plain(), set, nil), "Prep": with(plain(), nil, set)} {
			got, e := hint.Run(f, z, code("B0 00 2F B0 02 C0 B0 01", 64, "48"))
			judged(t, op+" behind "+name, got, e, touched(moved(z, 0, 64, 35), 0, 1, 2), 0)
		}
	}
}

// P10.2: the first program, too, begins with an empty stack and so on; each of them has the zone 1 for its pointers.
func TestFirstState(t *testing.T) {
	leaves(t, "the stack", plain(), code("24"), 0)
	hinted(t, "loop", plain(), row(5, 70, 40), code("B2 01 02 00 3C"), touched(moved(row(5, 70, 40), 5), 0))
	z := row(5, 70, 40)
	got, e := hint.Run(plain(), z, code("B0 00", 64, "48"))
	judged(t, "the axis", got, e, touched(moved(z, 64), 0), 0)
	hinted(t, "rp0", plain(), z, code("B0 01 3C"), touched(moved(z, 5, 5), 1))
	hinted(t, "rp1", plain(), z, code("B0 00 B0 10 48 B0 01 33"), touched(moved(z, 16, 81), 0, 1))
	hinted(t, "rp2", plain(), z, code("B0 00 B0 10 48 B0 01 32"), touched(moved(z, 16, 81), 0, 1))
	leaves(t, "the way", plain(), code(31, "68", 32, "68", -33, "68"), 0, 64, -64)
	for i := range 64 {
		leaves(t, "the store", plain(), code(i, "43"), 0)
	}
	hinted(t, "MINIMUM", plain(), row(0, 5), code("B0 01 C8"), touched(moved(row(0, 5), 0, 64), 1))
	for by, to := range map[int]int{67: 67, 68: 68, 69: 0, -68: -68, -69: 0} {
		hinted(t, "CUT", plain(by), row(0), code("7A B1 00 00 3F"), touched(moved(row(0), to), 0))
	}
}

// P10.2: what is kept from one program to the next.
func TestKept(t *testing.T) {
	f := plain(100, -200)
	for name, c := range map[string]struct {
		first, next []byte
		right       []int
	}{
		"zone 0 is":      {twilightAt(3, 0), code("B0 00 15 B0 03 46"), []int{100}},
		"zone 0 was":     {twilightAt(15, 1), code("B0 00 15 B0 0F 47"), []int{-200}},
		"zone 0 along y": {code("00", twilightAt(3, 0)), code("00 B0 00 15 B0 03 46"), []int{100}},
		"the CVT":        {code("B0 01", 77, "44"), code("B0 01 45 B0 00 45"), []int{77, 100}},
		"the store":      {code("B0 3F", 77, "42"), code("B0 3F 43 B0 00 43"), []int{77, 0}},
		"a function":     {function(63, "B0 4D"), code("B0 3F 2B"), []int{77}},
		"an empty one":   {function(0), code("B1 4D 00 2B"), []int{77}},
		"MINIMUM":        {code(300, "1A"), code("B0 00 13 B0 00 14 B0 05 C8 B0 00 15 B0 05 46"), []int{300}},
	} {
		leaves(t, name+" from Fpgm", with(f, c.first, nil), c.next, c.right...)
		leaves(t, name+" from Prep", with(f, nil, c.first), c.next, c.right...)
		leaves(t, name+" from Fpgm over Prep", with(f, c.first, code("22")), c.next, c.right...)
		look := code(c.next, "22")
		leaves(t, name+" to Prep", with(f, c.first, look), c.next, c.right...)
	}
	for cut, to := range map[int]int{100: 100, 99: 0} {
		c, set := code("7A B1 01 00 3F B0 01 46"), code(cut, "1D")
		leaves(t, "CUT from Fpgm", with(f, set, nil), c, to)
		leaves(t, "CUT from Prep", with(f, nil, set), c, to)
	}
	// From Fpgm to Prep: Prep asks, and keeps what it finds in the store.
	found := with(f, code("B0 05", 123, "42"), code("B1 06 05 43 42"))
	leaves(t, "the store to Prep", found, code("B0 06 43"), 123)
	called := with(f, function(7, "B1 05 09 42"), code("B0 07 2B"))
	leaves(t, "a function to Prep", called, code("B0 05 43"), 9)
	changed := with(f, code("B0 00", 5, "44"), code("B1 06 00 45 42"))
	leaves(t, "the CVT to Prep", changed, code("B0 06 43"), 5)
	put := with(f, twilightAt(3, 0), code("B0 00 15 B0 06 B0 03 46 42"))
	leaves(t, "zone 0 to Prep", put, code("B0 06 43"), 100)
}

// P2: what a call keeps, the next one doesn't find.
func TestCallsApart(t *testing.T) {
	busy := with(plain(100, -200), code(function(3, "B0 00 2F"), function(4), "B0 01", 300, "42", 500, "1A", 5, "1D"), code(twilightAt(1, 0), "B0 00 B0 09 44"))
	z := row(5, 70, 40)
	first, e := hint.Run(busy, z, code("B0 03 2B B0 01 D9 31"))
	for range 3 {
		leaves(t, "the store", plain(7), code("B0 01 43"), 0)
		leaves(t, "zone 0", plain(7), code("B0 00 15 B0 01 46 B0 00 45"), 0, 7)
		refused(t, "no function", plain(), z, code("B0 03 2B"), 101)
		hinted(t, "MINIMUM", plain(), row(0, 5), code("B0 01 C8"), touched(moved(row(0, 5), 0, 64), 1))
		again, f := hint.Run(busy, z, code("B0 03 2B B0 01 D9 31"))
		if e != 0 {
			t.Fatal(e)
		}
		judged(t, "again", again, f, first, 0)
	}
}
