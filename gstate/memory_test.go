package gstate_test

import (
	"slices"
	"testing"

	"serif/api"
	"serif/gstate"
)

// attic is the memory in which a zone's lists lie: each begins behind its start, and has spare room.
type attic struct {
	org, cur       []api.Spot
	touchX, touchY []bool
	ends           []int
}

// roomy: a sound zone, and the memory it lies in.
func roomy() (api.Zone, attic) {
	a := attic{
		org: places(at(90, 91), at(0, 1), at(10, 11), at(20, 21), at(92, 93)), cur: places(at(94, 95), at(5, 6), at(7, 8), at(40, 41), at(96, 97)),
		touchX: []bool{true, true, false, true, true}, touchY: []bool{false, true, false, true, true}, ends: []int{77, 2, 78},
	}
	return api.Zone{Org: a.org[1:4], Cur: a.cur[1:4], TouchX: a.touchX[1:4], TouchY: a.touchY[1:4], Ends: a.ends[1:2]}, a
}

// copied: the memory's numbers, elsewhere.
func (a attic) copied() attic {
	return attic{slices.Clone(a.org), slices.Clone(a.cur), slices.Clone(a.touchX), slices.Clone(a.touchY), slices.Clone(a.ends)}
}

// same: are the numbers in both the same?
func (a attic) same(b attic) bool {
	return slices.Equal(a.org, b.org) && slices.Equal(a.cur, b.cur) && slices.Equal(a.touchX, b.touchX) && slices.Equal(a.touchY, b.touchY) && slices.Equal(a.ends, b.ends)
}

// flood: writes over all of a list, spare room included.
func flood[P any](list []P, with P) {
	list = list[:cap(list)]
	for i := range list {
		list[i] = with
	}
}

// floodZone: writes over a zone's lists, the touches one the contrary of the other.
func floodZone(z api.Zone, n int) {
	flood(z.Org, at(n, n))
	flood(z.Cur, at(n+1, n+1))
	flood(z.TouchX, n%2 == 0)
	flood(z.TouchY, n%2 == 1)
	flood(z.Ends, n+2)
}

// whole: is all of the list the same, spare room included?
func whole[P comparable](list []P, is P) bool {
	return !slices.ContainsFunc(list[:cap(list)], func(p P) bool { return p != is })
}

// apart: no two lists of the zone share memory.
func apart(z api.Zone) bool {
	for _, n := range []int{1000, 2001} {
		floodZone(z, n)
		if !whole(z.Org, at(n, n)) || !whole(z.Cur, at(n+1, n+1)) || !whole(z.TouchX, n%2 == 0) || !whole(z.TouchY, n%2 == 1) || !whole(z.Ends, n+2) {
			return false
		}
	}
	return true
}

// The rules: what Put and Smooth are given is left as it was, spare room too, and their answer shares nothing with it and within itself.
func TestZoneMemory(t *testing.T) {
	for name, of := range map[string]func(z api.Zone) (api.Zone, api.Errno){
		"Put x":    func(z api.Zone) (api.Zone, api.Errno) { return gstate.Put(z, 0, 1, 44) },
		"Put y":    func(z api.Zone) (api.Zone, api.Errno) { return gstate.Put(z, 1, 2, 44) },
		"Smooth x": func(z api.Zone) (api.Zone, api.Errno) { return gstate.Smooth(z, 0) },
		"Smooth y": func(z api.Zone) (api.Zone, api.Errno) { return gstate.Smooth(z, 1) },
		"Smooth of no contour": func(z api.Zone) (api.Zone, api.Errno) {
			z.Ends = z.Ends[:0]
			return gstate.Smooth(z, 0)
		},
		"Smooth of no touch": func(z api.Zone) (api.Zone, api.Errno) {
			z.TouchX = make([]bool, 3)
			return gstate.Smooth(z, 0)
		},
	} {
		z, a := roomy()
		before := a.copied()
		got, e := of(z)
		if e != 0 || !a.same(before) {
			t.Error(name, e, "what was handed in is changed:", a)
		}
		right := deep(got)
		flood(a.org[:1], at(500, 500))
		flood(a.cur[:1], at(501, 501))
		flood(a.touchX[:1], false)
		flood(a.touchY[:1], true)
		flood(a.ends[:1], 502)
		if !same(got, right) {
			t.Error(name, "shares with what was handed in:", got)
		}
		before = a.copied()
		if !apart(got) {
			t.Error(name, "shares within itself:", got)
		}
		if !a.same(before) {
			t.Error(name, "has what was handed in in its spare room")
		}
	}
}

// The rules: Sound leaves what it is given; so do calls that are refused.
func TestRefusedMemory(t *testing.T) {
	z, a := roomy()
	before := a.copied()
	gstate.Sound(z)
	gstate.Put(z, 0, 1, maxFix+1)
	gstate.Put(z, 0, 3, 1)
	gstate.Put(z, 2, 0, 1)
	gstate.Smooth(z, 2)
	gstate.Outline(z, outline(row(knot(1, 1, 1))))
	if !a.same(before) {
		t.Error(a)
	}
	z.Cur[0].X, z.Org[1].X = maxFix, -maxFix
	z.Org[0].X, z.Org[2].X = -5, 0
	before = a.copied()
	if _, e := gstate.Smooth(z, 0); e != 94 || !a.same(before) {
		t.Error(e, a)
	}
}

// knotRows: contours in one piece of memory, each with what stands behind it as its spare room.
func knotRows() ([][]api.Knot, []api.Knot) {
	all := row(knot(1, 2, 1), knot(3, 4, 2), knot(5, 6, 3), knot(7, 8, 1), knot(9, 9, 2))
	return outline(all[:1], all[1:1], all[1:3], all[4:4], nil), all
}

// The rules: New leaves the outline, keeps nothing of it, and answers lists that share nothing.
func TestNewMemory(t *testing.T) {
	o, all := knotRows()
	before := slices.Clone(all)
	z := gstate.New(o)
	right := zoneAt(places(at(1, 2), at(3, 4), at(5, 6)), 0, 2)
	if !same(z, right) || !slices.Equal(all, before) {
		t.Error(z, all)
	}
	flood(all, knot(77, 77, 77))
	if !same(z, right) {
		t.Error("New shares with what was handed in:", z)
	}
	if !apart(z) {
		t.Error("New shares within itself:", z)
	}
	if !whole(all, knot(77, 77, 77)) {
		t.Error("New has what was handed in in its spare room")
	}
}

// The rules: Outline leaves the zone and the outline, keeps nothing of them, and answers contours that share nothing.
func TestOutlineMemory(t *testing.T) {
	z, a := roomy()
	o, all := knotRows()
	before, zone := slices.Clone(all), a.copied()
	got, e := gstate.Outline(z, o)
	right := outline(row(knot(5, 6, 1)), nil, row(knot(7, 8, 2), knot(40, 41, 3)), nil, nil)
	if e != 0 || !sameOutline(got, right) || !slices.Equal(all, before) || !a.same(zone) {
		t.Error(got, e, all, a)
	}
	flood(all, knot(77, 77, 77))
	flood(a.cur[:1], at(78, 78))
	flood(o, nil)
	if !sameOutline(got, right) {
		t.Error("Outline shares with what was handed in:", got)
	}
	for i := range got {
		flood(got[i], knot(i, i, i))
	}
	for i := range got {
		if !whole(got[i], knot(i, i, i)) {
			t.Error("Outline shares within itself:", got)
		}
	}
	if !whole(all, knot(77, 77, 77)) || !whole(a.cur, at(78, 78)) {
		t.Error("Outline has what was handed in in its spare room")
	}
}

// P2: calls between, refused ones too, change nothing that a call answers.
func TestCallsApart(t *testing.T) {
	z, _ := roomy()
	o, _ := knotRows()
	smooth, e := gstate.Smooth(z, 0)
	put, f := gstate.Put(z, 1, 1, 9)
	if e != 0 || f != 0 {
		t.Fatal(e, f)
	}
	for range 3 {
		gstate.New(o)
		gstate.Smooth(along(0, []int{1}, line(held(0, maxFix), free(1, 1))), 0)
		gstate.Smooth(filled(4097), 1)
		gstate.Put(z, 0, 2, -maxFix)
		gstate.Outline(z, nil)
		gstate.Round(9, api.RoundUp)
		again, e := gstate.Smooth(z, 0)
		judged(t, "Smooth again", again, e, smooth, 0)
		again, e = gstate.Put(z, 1, 1, 9)
		judged(t, "Put again", again, e, put, 0)
	}
}
