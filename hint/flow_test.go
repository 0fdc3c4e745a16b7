package hint_test

import (
	"testing"

	"serif/api"
	"serif/hint"
)

// P10.3, 58, 1B, 59.
func TestConditions(t *testing.T) {
	for _, c := range []struct {
		ops   string
		right []int
	}{
		{"B0 01 58 B0 07 59", []int{7}},
		{"B0 00 58 B0 07 59", nil},
		{"B0 00 58 B0 07 59 B0 08", []int{8}},
		{"B0 01 58 B0 07 59 B0 08", []int{7, 8}},
		{"B0 01 58 B0 07 1B B0 08 59", []int{7}},
		{"B0 00 58 B0 07 1B B0 08 59", []int{8}},
		{"B0 01 58 B0 07 1B B0 08 59 B0 09", []int{7, 9}},
		{"B0 00 58 B0 07 1B B0 08 59 B0 09", []int{8, 9}},
		{"B8 FF FF 58 B0 07 1B B0 08 59", []int{7}},
		{"B0 40 58 B0 07 1B B0 08 59", []int{7}},
		{"B0 00 58 59", nil}, {"B0 00 58 1B 59", nil}, {"B0 01 58 1B 59", nil}, {"B0 01 58 59", nil},
		// What is not 0 goes on, whatever stands behind; so does a 59 alone.
		{"B0 01 58", nil}, {"B0 01 58 B0 07", []int{7}}, {"59", nil}, {"59 59 B0 07", []int{7}},
		// A 1B goes on behind its 59, a later 1B doesn't count; so does one without a 58.
		{"1B B0 07 59 B0 08", []int{8}}, {"1B B0 07 1B B0 08 59 B0 09", []int{9}}, {"B0 01 58 1B B0 07 1B B0 08 59 B0 09", []int{9}},
		// The first 1B is where it goes on: with what stands there up to the next 1B.
		{"B0 00 58 1B B0 07 1B B0 08 59 B0 09", []int{7, 9}},
		// Within one another.
		{"B0 00 58 B0 00 58 1B 59 1B B0 07 59", []int{7}},
		{"B0 00 58 B0 00 58 59 1B B0 07 59", []int{7}},
		{"B0 00 58 58 58 1B 59 1B 59 1B B0 07 59 B0 08", []int{7, 8}},
		{"B0 00 58 58 58 1B 59 1B 59 B0 06 59 B0 08", []int{8}},
		{"B0 00 58 58 59 58 59 58 1B 59 1B B0 07 59", []int{7}},
		{"B1 01 00 58 B0 05 1B 58 B0 06 1B B0 07 59 59", []int{6}},
		{"B1 00 00 58 B0 05 1B 58 B0 06 1B B0 07 59 59", []int{7}},
		{"B1 00 01 58 58 B0 06 1B B0 07 59 1B B0 05 59", []int{7}},
		{"B1 01 01 58 58 B0 06 1B B0 07 59 1B B0 05 59", []int{6}},
		{"1B 58 1B 59 58 59 B0 07 59 B0 08", []int{8}},
		// Bytes that look like them lie behind instructions.
		{"B0 00 58 B0 59 B0 1B B7 59 1B 58 59 59 1B 58 58 B9 59 59 1B 1B 40 03 59 1B 59 41 02 59 59 1B 1B 1B B0 07 59", []int{7}},
		{"B0 00 58 40 00 41 00 59 B0 07", []int{7}},
		{"1B B1 59 1B B8 59 59 41 01 59 59 59 B0 07", []int{7}},
		{"B1 59 1B", []int{0x59, 0x1B}},
		// What is passed over isn't done, nor asked whether it is right.
		{"B0 00 58 4F 21 21 2D 2C 1C B0 00 62 59 B0 07", []int{7}},
		{"B0 01 58 B0 07 1B 4F 21 2D 2C 59", []int{7}},
	} {
		leaves(t, "conditions", plain(), code(c.ops), c.right...)
	}
	leaves(t, "many bytes behind", plain(), code("B0 00 58 40 59", times(0x59, "59"), "59 B0 07"), 7)
	leaves(t, "many numbers behind", plain(), code("B0 00 58 41 1B", times(2*0x1B, "1B"), "1B B0 07 59"), 7)
}

// P10.3, 58 and 1B without the end that belongs to them, or with bytes missing on the way there.
func TestNoEnd(t *testing.T) {
	for _, ops := range []string{
		"B0 00 58", "B0 00 58 B0 07", "B0 00 58 58 59", "B0 00 58 58 1B 59", "B0 00 58 58 1B", "B0 00 58 58 58 59 59", "B0 00 58 B0 59", "B0 00 58 B0 1B", "B0 00 58 40 01 59", "B0 00 58 B8 59 59",
		"1B", "1B B0 07", "1B 1B", "1B 58 59", "1B 58 1B 59", "1B B0 59", "B0 01 58 1B", "B0 01 58 1B B0 07", "B0 00 58 1B 1B", "1B 58",
		"B0 00 58 B0", "B0 00 58 B1 59", "B0 00 58 40", "B0 00 58 40 02 59", "B0 00 58 41 01 59", "B0 00 58 BF 59 59", "1B B1 59", "1B 40 FF 59 59 59", "1B B8 59",
	} {
		refused(t, "no end", plain(), row(5), code(ops), 101)
		refused(t, "no end in Fpgm", with(plain(), code(ops), nil), row(5), nil, 101)
		refused(t, "no end in Prep", with(plain(), nil, code(ops)), row(5), nil, 101)
	}
}

// P10.3: in a function the end belongs to an instruction that lies in the function, too. By a jump into bytes it may have none.
func TestNoEndInFunction(t *testing.T) {
	for _, c := range []struct {
		body string
		want api.Errno
	}{
		{"B0 00 B0 02 1C B2 58 59 59", 0}, {"B0 00 B0 02 1C B2 58 20 20", 101}, {"B0 00 B0 02 1C B1 58 B2", 101}, {"B0 02 1C B1 1B 07", 101}, {"B0 02 1C B1 1B 59", 0}, {"B0 00 B0 02 1C B0 58", 101},
	} {
		z, e := hint.Run(with(plain(), code(function(0, c.body), "59 59"), nil), row(5), code("B0 00 2B 59"))
		if e != c.want {
			t.Error(c.body, z, e)
		}
	}
}

// P10.3, 1C, 78, 79: jumps count from their own byte.
func TestJumps(t *testing.T) {
	for _, c := range []struct {
		ops   string
		right []int
	}{
		{"B0 01 1C B0 07", []int{7}}, {"B0 03 1C B0 07 B0 08", []int{8}}, {"B0 05 1C B0 07 B0 08", nil}, {"B0 02 1C B0 B0 07", []int{7}},
		{"B1 05 01 78 B0 07 B0 08", nil}, {"B1 03 01 78 B0 07 B0 08", []int{8}}, {"B1 03 00 78 B0 07 B0 08", []int{7, 8}}, {"B9 00 03 FF FF 78 B0 07 B0 08", []int{8}},
		{"B1 03 00 79 B0 07 B0 08", []int{8}}, {"B1 03 01 79 B0 07 B0 08", []int{7, 8}}, {"B9 00 03 FF FF 79 B0 07 B0 08", []int{7, 8}},
		// Not taken, it may lead nowhere.
		{"B1 00 00 78", nil}, {"B1 00 01 79", nil}, {"B9 80 00 00 00 78 B0 07", []int{7}}, {"B9 7F FF 00 01 79 B0 07", []int{7}},
		// Into bytes behind an instruction; over a 58 without its end; to the last byte.
		{"B0 03 1C B1 B0 B0 07", []int{7}}, {"B0 02 1C 58 B0 07", []int{7}}, {"B1 07 03 1C B0 21 20", []int{7, 7}}, {"B0 03 1C 4F 2D", nil},
		// Back: the first time round 5 lies there, then 4, and so on, till 0.
		{"B0 05 B0 01 61 20 B8 FF F8 23 78 B0 07", []int{0, 7}},
		{"B0 05 B0 01 61 20 5C B8 FF F7 23 79 B0 07", []int{0, 7}},
		// To the first byte: 9, in the store's 0-th, tells the second time.
		{"B0 00 43 58 B0 07 B0 0A 1C 59 B1 00 09 42 B8 FF EF 1C 21 B0 08", []int{8}},
	} {
		leaves(t, "jumps", plain(), code(c.ops), c.right...)
	}
	for _, ops := range []string{
		"B0 00 1C", "B0 00 1C 18", "B0 02 1C", "B0 03 1C 18", "B8 FF FC 1C", "B8 FF FC 1C 18", "B8 80 00 1C", "B8 7F FF 1C", "B1 00 01 78", "B1 02 01 78", "B9 FF FA 00 01 78", "B1 00 00 79", "B1 02 00 79", "B9 FF FA 00 00 79",
		"B9 FF FA 80 00 78",
	} {
		refused(t, "nowhere", plain(), row(5), code(ops), 101)
		refused(t, "nowhere in Fpgm", with(plain(), code(ops), nil), row(5), nil, 101)
		refused(t, "nowhere in a function", with(plain(), code("59 59", function(0, ops), "59 59"), nil), row(5), code("B0 00 2B 59 59"), 101)
	}
	for _, ops := range []string{"B0 01 1C", "B0 02 1C 18", "B0 02 1C 4F", "B1 01 01 78", "B1 01 00 79", "B1 02 01 78 4F"} {
		hinted(t, "to the end", plain(), row(5), code(ops), row(5))
		hinted(t, "to a function's end", with(plain(), function(0, ops), nil), row(5), code("B0 00 2B"), row(5))
		hinted(t, "to Fpgm's end", with(plain(), code(ops), nil), row(5), nil, row(5))
	}
	refused(t, "the ends of FIX", plain(maxFix), row(5), code("B0 00 45 1C"), 101)
	refused(t, "the ends of FIX", plain(-maxFix), row(5), code("B0 00 45 1C"), 101)
	// To the first byte, of the program and of a function, till there is nothing to read.
	refused(t, "the first byte", plain(), row(5), code("B8 FF FD 1C"), 103)
	refused(t, "a function's first byte", with(plain(), function(0, "B8 FF FD 1C"), nil), row(5), code("59 B0 00 2B"), 103)
}

// P10.3: a jump within a function counts from its own byte there.
func TestJumpsInFunctions(t *testing.T) {
	f := with(plain(), code(function(0, "B0 03 1C B0 07 B0 08"), function(1, "B0 05 B0 01 61 20 B8 FF F8 23 78"), function(2, "B1 03 01 78 B0 07 B0 09")), nil)
	leaves(t, "forth", f, code("B0 00 2B"), 8)
	leaves(t, "back", f, code("B0 01 2B"), 0)
	leaves(t, "forth, if", f, code("B0 02 2B B0 0A"), 9, 10)
	leaves(t, "all", f, code("B0 01 2B B0 02 2B B0 00 2B"), 0, 9, 8)
}

// P10.3: at most 10000 instructions are read, counted over all programs.
func TestFuel(t *testing.T) {
	ok := func(name string, f api.HintFont, c []byte, right bool) {
		t.Helper()
		z, e := hint.Run(f, row(5), c)
		if right && (e != 0 || !same(z, row(5))) || !right && (e != 103 || !same(z, api.Zone{})) {
			t.Error(name, z, e)
		}
	}
	rest := times(10000-8192, "59")
	long := times(4096, "59")
	ok("three programs", with(plain(), long, long), rest, true)
	ok("three programs", with(plain(), long, long), code(rest, "59"), false)
	ok("three programs", with(plain(), long, rest), long, true)
	ok("three programs", with(plain(), long, code(rest, "59")), long, false)
	ok("three programs", with(plain(), rest, long), long, true)
	ok("three programs", with(plain(), code(rest, "59"), long), long, false)
	for _, last := range []string{"4F", "21", "2D", "B0", "1B"} {
		refused(t, "what isn't read", with(plain(), long, long), row(5), code(rest, last), 103)
		refused(t, "what is read", with(plain(), long, long), row(5), code(rest[1:], last), map[bool]api.Errno{true: 102, false: 101}[last == "4F"])
	}
	// A jump back counts each time: 6 instructions a round, and one ahead of them and one behind.
	loop := func(rounds, more int) []byte {
		return code(rounds, "B0 01 61 20 B8 FF F8 23 78 21", times(more, "59"))
	}
	ok("a loop", plain(), loop(1666, 2), true)
	ok("a loop", plain(), loop(1666, 3), false)
	// A function's instructions count each time, beside 2 for its definition and 3 for the call.
	ok("functions", with(plain(), function(0, times(999, "18")), nil), code(10, 0, "2A"), true)
	ok("functions", with(plain(), function(0, times(999, "18")), nil), code(10, 0, "2A 59 59 59 59 59"), true)
	ok("functions", with(plain(), function(0, times(999, "18")), nil), code(10, 0, "2A 59 59 59 59 59 59"), false)
	// The end of a function and of a program is no instruction; nor is what is passed over.
	ok("empty ones", with(plain(), function(0), nil), code(1000, 0, "2A", times(4000, "59")), true)
	skipped := code("B0 00 58", times(1000, "20"), "59")
	ok("passed over", with(plain(), long, long), code(skipped, times(1806, "59")), true)
	ok("passed over", with(plain(), long, long), code(skipped, times(1807, "59")), false)
	defined := function(0, times(2000, "18"))
	ok("defined", with(plain(), code(defined, defined, times(50, "59")), long), times(4096, "59"), true)
	ok("defined", with(plain(), code(defined, times(1802, "59")), long), long, true)
	ok("defined", with(plain(), code(defined, times(1806, "59")), long), long, true)
	ok("defined", with(plain(), code(defined, times(1807, "59")), long), long, false)
	ok("for ever", plain(), code("B8 FF FD 1C"), false)
	ok("for ever in Fpgm", with(plain(), code("B8 FF FD 1C"), nil), nil, false)
	ok("for ever in Prep", with(plain(), nil, code("B8 FF FD 1C")), nil, false)
}
