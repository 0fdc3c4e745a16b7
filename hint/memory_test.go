package hint_test

import (
	"bytes"
	"slices"
	"testing"

	"serif/api"
	"serif/hint"
)

// attic is the memory in which all lists lie that a call is given: each begins behind its start, and has spare room.
type attic struct {
	org, cur         []api.Spot
	touchX, touchY   []bool
	ends, cvt        []int
	fpgm, prep, code []byte
}

// roomy: what a call is given, and the memory it lies in.
func roomy(c []byte) (api.HintFont, api.Zone, []byte, attic) {
	// Ahead of and behind each program lie bytes that would be refused.
	held := func(c []byte) []byte { return code("4F", c, "4F 4F 4F 4F") }
	a := attic{
		org: []api.Spot{at(90, 91), at(0, 1), at(10, 11), at(20, 21), at(92, 93)}, cur: []api.Spot{at(94, 95), at(5, 6), at(7, 8), at(40, 41), at(96, 97)},
		touchX: []bool{true, false, false, true, true}, touchY: []bool{false, false, false, true, true}, ends: []int{77, 2, 78},
		cvt: []int{555, 100, -200, 555, 555}, fpgm: held(function(3, "B0 00 2F")), prep: held(code("B0 00", 64, "44")), code: held(c),
	}
	f := api.HintFont{Fpgm: a.fpgm[1 : len(a.fpgm)-4], Prep: a.prep[1 : len(a.prep)-4], Cvt: a.cvt[1:3], Size: 64, Units: 64}
	z := api.Zone{Org: a.org[1:4], Cur: a.cur[1:4], TouchX: a.touchX[1:4], TouchY: a.touchY[1:4], Ends: a.ends[1:2]}
	return f, z, a.code[1 : len(a.code)-4], a
}

// copied: the memory's numbers, elsewhere.
func (a attic) copied() attic {
	return attic{slices.Clone(a.org), slices.Clone(a.cur), slices.Clone(a.touchX), slices.Clone(a.touchY), slices.Clone(a.ends), slices.Clone(a.cvt), bytes.Clone(a.fpgm), bytes.Clone(a.prep), bytes.Clone(a.code)}
}

// same: are the numbers in both the same?
func (a attic) same(b attic) bool {
	return slices.Equal(a.org, b.org) && slices.Equal(a.cur, b.cur) && slices.Equal(a.touchX, b.touchX) && slices.Equal(a.touchY, b.touchY) && slices.Equal(a.ends, b.ends) && slices.Equal(a.cvt, b.cvt) &&
		bytes.Equal(a.fpgm, b.fpgm) && bytes.Equal(a.prep, b.prep) && bytes.Equal(a.code, b.code)
}

// flood: writes over all of a list, spare room included.
func flood[P any](list []P, with P) {
	list = list[:cap(list)]
	for i := range list {
		list[i] = with
	}
}

// floodZone: writes over a zone's lists, the touches one the contrary of the other.
func floodZone(z api.Zone, n int) {
	flood(z.Org, at(n, n))
	flood(z.Cur, at(n+1, n+1))
	flood(z.TouchX, n%2 == 0)
	flood(z.TouchY, n%2 == 1)
	flood(z.Ends, n+2)
}

// whole: is all of the list the same, spare room included?
func whole[P comparable](list []P, is P) bool {
	return !slices.ContainsFunc(list[:cap(list)], func(p P) bool { return p != is })
}

// apart: no two lists of the zone share memory.
func apart(z api.Zone) bool {
	for _, n := range []int{1000, 2001} {
		floodZone(z, n)
		if !whole(z.Org, at(n, n)) || !whole(z.Cur, at(n+1, n+1)) || !whole(z.TouchX, n%2 == 0) || !whole(z.TouchY, n%2 == 1) || !whole(z.Ends, n+2) {
			return false
		}
	}
	return true
}

// The rules: what Run is given is left as it was, spare room too, and its answer shares nothing with it and within itself.
func TestMemory(t *testing.T) {
	for name, ops := range map[string]string{
		"no bytes": "", "nothing done": "59", "put": "B0 03 2B B1 01 09 48 00 B0 02 2F", "smoothed": "B0 03 2B 31 30", "values": "B1 01 09 44 B1 00 09 70 B1 00 01 3F", "zone 0": "B0 00 13 B1 05 01 3E B0 00 14 B1 06 01 E0",
		"a loop": "B0 03 17 B2 00 01 02 B0 07 38", "distances": "B0 01 D9 B1 02 00 F5 B1 00 08 3B",
	} {
		f, z, c, a := roomy(code(ops))
		before := a.copied()
		got, e := hint.Run(f, z, c)
		if e != 0 || !a.same(before) {
			t.Error(name, e, "what was handed in is changed:", a)
		}
		right := deep(got)
		flood(a.org, at(500, 500))
		flood(a.cur, at(501, 501))
		flood(a.touchX, false)
		flood(a.touchY, true)
		flood(a.ends, 502)
		flood(a.cvt, 503)
		for _, list := range [][]byte{a.fpgm, a.prep, a.code} {
			flood(list, 0x4F)
		}
		if !same(got, right) {
			t.Error(name, "shares with what was handed in:", got)
		}
		before = a.copied()
		if !apart(got) {
			t.Error(name, "shares within itself:", got)
		}
		if !a.same(before) {
			t.Error(name, "has what was handed in in its spare room")
		}
	}
}

// The rules: a call that is refused leaves what it is given, too.
func TestRefusedMemory(t *testing.T) {
	for _, ops := range []string{"4F", "B0 03 2B B1 01 09 48 31 30 4F", "B1 01 09 44 B1 00 09 70 B1 00 01 3F 21", "B0 03 17 B2 09 01 02 B0 07 38", "B8 FF FD 1C"} {
		f, z, c, a := roomy(code(ops))
		before := a.copied()
		if got, e := hint.Run(f, z, c); e == 0 || !same(got, api.Zone{}) || !a.same(before) {
			t.Error(ops, got, e, a)
		}
		f.Units = 15
		hint.Run(f, z, c)
		if !a.same(before) {
			t.Error(ops, a)
		}
	}
}

// The rules: what is handed in may be written over behind the call; a later one answers of itself alone.
func TestWrittenOver(t *testing.T) {
	f, z, c, a := roomy(code("B0 03 2B B1 01 01 3E 31"))
	first, e := hint.Run(f, z, c)
	if e != 0 {
		t.Fatal(e)
	}
	right := deep(first)
	floodZone(first, 4)
	again, e := hint.Run(f, z, c)
	judged(t, "again", again, e, right, 0)
	a.cvt[2], a.code[2] = 300, 0x03
	model, want := runModel(f, z, c)
	changed, e := hint.Run(f, z, c)
	judged(t, "changed", changed, e, model, want)
	if same(changed, right) {
		t.Error("the same in spite of the change")
	}
}

// The rules: a list may be nil or empty.
func TestEmptyLists(t *testing.T) {
	empty := api.Zone{Org: []api.Spot{}, Cur: []api.Spot{}, TouchX: []bool{}, TouchY: []bool{}, Ends: []int{}}
	for _, z := range []api.Zone{empty, {}} {
		for _, f := range []api.HintFont{plain(), {Size: 64, Units: 64, Fpgm: []byte{}, Prep: []byte{}, Cvt: []int{}}} {
			for _, c := range [][]byte{nil, {}, code("30 31 B0 07 21")} {
				got, e := hint.Run(f, z, c)
				judged(t, "empty", got, e, api.Zone{}, 0)
			}
		}
	}
}
