package hint_test

import (
	"testing"

	"serif/api"
	"serif/hint"
)

// P10.3, 2C: the function's bytes, from behind it up to the next 2D; goes on behind that.
func TestDefinitions(t *testing.T) {
	for _, c := range []struct {
		fpgm, ops string
		right     []int
	}{
		{"B0 00 2C B0 07 2D", "B0 00 2B", []int{7}},
		{"B0 00 2C 2D", "B1 05 00 2B", []int{5}},
		{"B0 00 2C B0 07 B0 08 2D B0 01 2C B0 09 2D", "B0 01 2B B0 00 2B", []int{9, 7, 8}},
		{"B1 05 00 2C B0 07 2D 58 18 59", "B0 00 2B", []int{7}},
		// The bytes behind instructions are passed over: 2D, 2C, 58, 59 and 1B lie there.
		{"B0 00 2C B0 2D 2D", "B0 00 2B", []int{0x2D}},
		{"B0 00 2C B3 2D 2C 58 59 BA 2D 2D 1B 59 58 2C 40 02 2D 1B 41 01 59 2D 2D", "B0 00 2B", []int{0x2D, 0x2C, 0x58, 0x59, 0x2D2D, 0x1B59, 0x582C, 0x2D, 0x1B, 0x592D}},
		{"B0 00 2C 40 00 41 00 2D", "B0 00 2B", nil},
		// Conditions within one another; a 1B within them, more than one.
		{"B0 00 2C 58 B0 07 59 2D", "B2 05 01 00 2B", []int{5, 7}},
		{"B0 00 2C 58 B0 07 1B B0 08 59 2D", "B1 00 00 2B", []int{8}},
		{"B0 00 2C 58 58 59 1B 58 1B 59 1B B0 08 59 58 59 2D", "B3 00 00 00 00 2B", nil},
		// A 2B, 2A and bytes that are no instruction may stand there, as long as they aren't run.
		{"B0 00 2C B0 01 1C B0 07 B0 03 1C 4F 02 2D", "B0 00 2B", []int{7}},
		{"B0 00 2C B0 07 2D B0 01 2C B0 00 2B B0 00 2B 2D", "B0 01 2B", []int{7, 7}},
		// Calls of later functions; a function that is there is replaced.
		{"B0 01 2C B0 00 2B 2D B0 00 2C B0 07 2D", "B0 01 2B", []int{7}},
		{"B0 00 2C B0 07 2D B0 00 2C B0 08 2D", "B0 00 2B", []int{8}},
		{"B0 00 2C B0 07 2D B0 00 2C 2D", "B0 00 2B", nil},
		{"B0 3F 2C B0 07 2D B0 3E 2C B0 08 2D", "B0 3F 2B B0 3E 2B", []int{7, 8}},
		// What is passed over defines nothing, and what is jumped over neither.
		{"B0 00 2C B0 07 2D B0 00 58 B0 00 2C B0 08 2D 59", "B0 00 2B", []int{7}},
		{"B0 00 2C B0 07 2D B0 08 1C B0 00 2C B0 08 2D 59", "B0 00 2B", []int{7}},
		// A definition in a condition.
		{"B0 01 58 B0 00 2C B0 07 2D 59", "B0 00 2B", []int{7}},
		{"B0 01 58 B0 00 2C 58 1B 59 2D 1B B0 00 2C 4F 2D 59", "B1 00 00 2B", nil},
	} {
		leaves(t, "Fpgm "+c.fpgm, with(plain(), code(c.fpgm), nil), code(c.ops), c.right...)
		leaves(t, "Prep "+c.fpgm, with(plain(), nil, code(c.fpgm)), code(c.ops), c.right...)
		leaves(t, "both "+c.fpgm, with(plain(), function(0, "4F"), code(c.fpgm)), code(c.ops), c.right...)
	}
	leaves(t, "called by Prep", with(plain(), function(0, "B0 05", 77, "42"), code("B0 00 2B B0 00 2C 4F 2D")), code("B0 05 43"), 77)
	leaves(t, "called by Fpgm", with(plain(), code(function(0, "B0 05", 77, "42"), "B0 00 2B"), nil), code("B0 05 43"), 77)
}

// P10.3, 2C: definitions that aren't right.
func TestWrongDefinitions(t *testing.T) {
	for _, ops := range []string{
		"2C", "2C 2D", "B0 00 2C", "B0 00 2C B0 07", "B0 00 2C B0 2D", "B0 00 2C 40 01 2D", "B0 00 2C B8 2D 2D",
		"B0 00 2C 2C 2D", "B0 00 2C B0 01 2C 2D 2D", "B0 00 2C B0 00 58 2C 59 2D",
		"B0 00 2C 1B 2D", "B0 00 2C 59 2D", "B0 00 2C 58 59 59 2D", "B0 00 2C 58 59 1B 2D", "B0 00 2C 1B 59 2D", "B0 00 2C 58 1B 59 1B 2D", "B0 00 2C 1B 58 59 2D", "B0 00 2C 59 58 59 2D",
		"B0 00 2C 58 2D", "B0 00 2C 58 1B 2D", "B0 00 2C 58 58 59 2D", "B0 00 2C 58 2D 59", "B0 00 2C 58 2D 59 2D", "B0 00 2C 58 58 59 59 58 2D", "B0 00 2C 58 58 2D 59 59 2D", "B0 00 2C 59 58 2D",
		"B0 00 2C B0", "B0 00 2C B1 2D", "B0 00 2C 40", "B0 00 2C 40 03 2D 2D", "B0 00 2C 41 01 2D", "B0 00 2C BF 2D 2D 2D 2D",
		"2D", "B0 00 2C 2D 2D",
	} {
		refused(t, "Fpgm", with(plain(), code(ops), nil), row(5), nil, 101)
		refused(t, "Prep", with(plain(), nil, code(ops)), row(5), nil, 101)
		refused(t, "code", plain(), row(5), code(ops), 101)
		refused(t, "from within a function", with(plain(), nil, nil), row(5), code("B0 00 2B", ops), 101)
	}
	for _, k := range []int{-1, 64, 65, 32767, -32768} {
		refused(t, "no number of a function", with(plain(), function(k, "18"), nil), row(5), nil, 101)
		refused(t, "no number of a function", with(plain(), nil, function(k, "18")), row(5), nil, 101)
	}
	for _, k := range []int{0, 1, 62, 63} {
		leaves(t, "functions", with(plain(), function(k, k), nil), code(k, "2B"), k)
		refused(t, "in code", plain(), row(5), function(k, "18"), 101)
		refused(t, "in code, where there is one", with(plain(), function(k, "18"), nil), row(5), function(k, "18"), 101)
	}
	// In a function a 2C can stand in no definition; by a jump into bytes it is reached, and refused.
	hidden := function(0, "B0 00 B0 03 1C B3 18 2C 18 2D")
	refused(t, "in a function of Fpgm", with(plain(), code(hidden, "B0 00 2B"), nil), row(5), nil, 101)
	refused(t, "in a function of Prep", with(plain(), hidden, code("B0 00 2B")), row(5), nil, 101)
	if _, e := hint.Run(with(plain(), hidden, nil), row(5), code("18")); e != 0 {
		t.Error(e)
	}
	// By a jump into bytes a 2D is reached, too.
	refused(t, "2D in a function", with(plain(), function(0, "B0 02 1C B0 2D"), nil), row(5), code("B0 00 2B"), 101)
}

// P10.3, 2C by a jump: outside of functions it may be reached in the bytes behind an instruction.
func TestDefinitionInBytes(t *testing.T) {
	f := with(plain(), code("B0 05 B0 02 1C B4 2C B0 09 2D 18"), nil)
	leaves(t, "in bytes", f, code("B0 05 2B"), 9)
}

// P10.3, 2B and 2A: functions that are there or not, and how often they run.
func TestCalls(t *testing.T) {
	f := with(plain(), code(function(0, "B0 07"), function(5, "B0 01 60"), function(63)), nil)
	leaves(t, "once", f, code("B0 00 2B"), 7)
	leaves(t, "goes on", f, code("B0 00 2B B0 08"), 7, 8)
	for _, n := range []int{0, 1, 2, 3, 250} {
		leaves(t, "times", f, code(100, n, 5, "2A"), 100+n)
	}
	leaves(t, "a thousand times", f, code(100, 1000, 5, "2A"), 1100)
	leaves(t, "an empty one a thousand times", f, code(100, 1000, 63, "2A"), 100)
	refused(t, "1001 times", f, row(5), code(100, 1001, 5, "2A"), 103)
	refused(t, "1001 times an empty one", f, row(5), code(100, 1001, 63, "2A"), 103)
	refused(t, "32767 times", f, row(5), code(32767, 63, "2A"), 103)
	for _, n := range []int{-1, -1000, -1001, -32768} {
		refused(t, "below 0 times", f, row(5), code(n, 63, "2A"), 101)
	}
	for _, k := range []int{-1, 1, 4, 6, 62, 64, 65, 32767, -32768} {
		refused(t, "none", f, row(5), code(k, "2B"), 101)
		for _, n := range []int{0, 1, 1001} {
			refused(t, "none", f, row(5), code(n, k, "2A"), 101)
		}
	}
	refused(t, "none at all", plain(), row(5), code("B0 00 2B"), 101)
	refused(t, "not yet", with(plain(), code("B0 05 2B", function(5)), nil), row(5), nil, 101)
	refused(t, "not yet in Fpgm", with(plain(), code("B0 05 2B"), function(5)), row(5), nil, 101)
	refused(t, "what is wrong in one", with(plain(), function(0, "4F"), nil), row(5), code("B0 00 2B"), 102)
	refused(t, "what is wrong in the third run", with(plain(), function(0, "21"), nil), row(5), code("B2 01 01 01", 4, 0, "2A"), 101)
	hinted(t, "run as often as it goes", with(plain(), function(0, "21"), nil), row(5), code("B2 01 01 01", 3, 0, "2A"), row(5))
	leaves(t, "one begins at its first byte each time", with(plain(), function(0, "24 B0 03 1C 24 24"), nil), code(3, 0, "2A"), 0, 1, 2)
}

// P10.3: the stack and all the state are the program's, in functions too.
func TestStateInFunctions(t *testing.T) {
	f := with(plain(), code(function(0, "23 B0 01 10 19"), function(1, "B1 02 01 38"), function(2, "B0 02 17")), nil)
	leaves(t, "the stack and the way", f, code("B1 05 06 B0 00 2B B0 00 68"), 6, 5, 32)
	z := row(5, 70, 40)
	hinted(t, "rp0", f, z, code("B1 05 06 B0 00 2B B0 02 3C"), touched(moved(z, 5, 70, 70), 2))
	hinted(t, "loop", f, z, code("B0 02 2B B2 00 01 09 38"), touched(moved(z, 14, 79), 0, 1))
}

// chain: functions of which each calls the one ahead of it; the first one does something.
func chain(n int, parts ...any) []byte {
	out := function(0, parts...)
	for k := 1; k < n; k++ {
		out = code(out, function(k, k-1, "2B"))
	}
	return out
}

// P10.3: at most 16 functions run within one another.
func TestDeep(t *testing.T) {
	leaves(t, "16", with(plain(), chain(16, "B0 07"), nil), code(15, "2B"), 7)
	leaves(t, "16, twice", with(plain(), chain(16, "B0 07"), nil), code(15, "2B", 15, "2B", 2, 15, "2A"), 7, 7, 7, 7)
	refused(t, "17", with(plain(), chain(17, "B0 07"), nil), row(5), code(16, "2B"), 103)
	refused(t, "17, by 2A", with(plain(), chain(17, "B0 07"), nil), row(5), code(1, 16, "2A"), 103)
	leaves(t, "16 of 17", with(plain(), chain(17, "B0 07"), nil), code(15, "2B"), 7)
	refused(t, "in Fpgm", with(plain(), code(chain(17), 16, "2B"), nil), row(5), nil, 103)
	hinted(t, "in Fpgm", with(plain(), code(chain(16), 15, "2B"), nil), row(5), nil, row(5))
	refused(t, "for ever", with(plain(), function(0, "B0 00 2B"), nil), row(5), code("B0 00 2B"), 103)
	// The innermost one calls by 2A, one that isn't there, 0 times, too often.
	inner := func(parts ...any) api.HintFont {
		return with(plain(), code(function(20, "18"), chain(16, parts...)), nil)
	}
	for _, n := range []int{0, 1, 1000, 1001} {
		refused(t, "one more", inner(n, 20, "2A"), row(5), code(15, "2B"), 103)
		refused(t, "one more that isn't there", inner(n, 21, "2A"), row(5), code(15, "2B"), 101)
	}
	refused(t, "one more below 0 times", inner(-1, 20, "2A"), row(5), code(15, "2B"), 101)
	refused(t, "one more that isn't there", inner(21, "2B"), row(5), code(15, "2B"), 101)
	hinted(t, "the last one", inner(1000, 20, "2A"), row(5), code(14, "2B"), row(5))
	// What has ended doesn't run any more.
	leaves(t, "one after the other", with(plain(), code(chain(16, "B0 01 60"), function(16, times(40, 14, "2B"))), nil), code(5, 16, "2B"), 45)
}
