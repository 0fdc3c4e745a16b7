package hint_test

import (
	"fmt"
	"slices"
	"testing"

	"serif/api"
	"serif/hint"
)

// P10.3, 40 and 41, B0 to BF: numbers that lie behind.
func TestPushes(t *testing.T) {
	leaves(t, "none", plain(), code("40 00"))
	leaves(t, "none of two bytes", plain(), code("41 00"))
	leaves(t, "bytes", plain(), code("40 03 00 FF 80"), 0, 255, 128)
	leaves(t, "numbers", plain(), code("41 07 00 00 7F FF 80 00 FF FF 01 02 FF 00 00 80"), 0, 32767, -32768, -1, 258, -256, 128)
	leaves(t, "not an instruction behind", plain(), code("40 02 2D 58 B1 59 1B 41 01 2C 2D"), 45, 88, 89, 27, 0x2C2D)
	var bytes, words []byte
	var byteRow, wordRow []int
	for n := 1; n <= 8; n++ {
		bytes, words = append(bytes, byte(256-n)), append(words, byte(256-n), byte(n))
		byteRow, wordRow = append(byteRow, 256-n), append(wordRow, -256*n+n)
		leaves(t, "the next bytes", plain(), code(byte(0xB0+n-1), bytes), byteRow...)
		leaves(t, "the next numbers", plain(), code(byte(0xB8+n-1), words), wordRow...)
		leaves(t, "ends", plain(), code(byte(0xB8+n-1), times(n, "7F FF"), byte(0xB8+n-1), times(n, "80 00")), append(slices.Repeat([]int{32767}, n), slices.Repeat([]int{-32768}, n)...)...)
	}
	for _, n := range []int{1, 100, 253, 254} {
		var list, pairs []byte
		var row []int
		for i := range n {
			list, pairs, row = append(list, byte(i)), append(pairs, 0, byte(i)), append(row, i)
		}
		leaves(t, "many bytes", plain(), code("40", byte(n), list), row...)
		leaves(t, "many numbers", plain(), code("41", byte(n), pairs), row...)
	}
}

// P10.3: bytes that an instruction needs behind it and that aren't there.
func TestBytesMissing(t *testing.T) {
	needs := map[string]int{"40": 1, "41": 1, "40 01": 1, "40 05": 5, "40 FF": 255, "41 01": 2, "41 03": 6, "41 FF": 510}
	for n := 1; n <= 8; n++ {
		needs[fmt.Sprintf("%02X", 0xB0+n-1)] = n
		needs[fmt.Sprintf("%02X", 0xB8+n-1)] = 2 * n
	}
	for ops, n := range needs {
		for has := range n {
			c := code(ops, times(has, "00"))
			refused(t, "in code", plain(), row(5), c, 101)
			refused(t, "in Fpgm", with(plain(), c, nil), row(5), nil, 101)
			refused(t, "in Prep", with(plain(), nil, c), row(5), nil, 101)
			refused(t, "behind others", plain(), row(5), code("B0 01 21", c), 101)
			refused(t, "in a function that is passed over", with(plain(), code(0, "2C", c), nil), row(5), nil, 101)
		}
		if _, e := hint.Run(plain(), row(5), code(ops, times(n, "00"))); e != 0 {
			t.Error(ops, e)
		}
	}
	// What stands behind a function's 2D doesn't lie behind its instructions: here a jump leads into bytes, to a B1.
	refused(t, "at a function's end", with(plain(), code(0, "2C", 2, "1C B1 B1 00 2D 00 00"), nil), row(5), code("B0 00 2B"), 101)
	leaves(t, "within a function", with(plain(), code(0, "2C", 2, "1C B2 B1 07 08 2D 00 00"), nil), code("B0 00 2B"), 7, 8)
}

// full: pushes n numbers.
func full(n int) []byte { return times(n, "B0 05") }

// P10.3: at most 256 numbers lie on the stack.
func TestStackFull(t *testing.T) {
	for n := 1; n <= 8; n++ {
		bytes, words := code(byte(0xB0+n-1), times(n, "01")), code(byte(0xB8+n-1), times(n, "00 01"))
		for _, c := range [][]byte{bytes, words} {
			hinted(t, "just full", plain(), row(5), code(full(maxStack-n), c), row(5))
			refused(t, "too many", plain(), row(5), code(full(maxStack-n+1), c), 103)
			refused(t, "too many in Fpgm", with(plain(), code(full(maxStack-n+1), c), nil), row(5), nil, 103)
			refused(t, "too many in Prep", with(plain(), nil, code(full(maxStack-n+1), c)), row(5), nil, 103)
		}
	}
	for _, n := range []int{1, 2, 255} {
		bytes, words := code("40", byte(n), times(n, "01")), code("41", byte(n), times(n, "00 01"))
		for _, c := range [][]byte{bytes, words} {
			hinted(t, "just full", plain(), row(5), code(full(maxStack-n), c), row(5))
			refused(t, "too many", plain(), row(5), code(full(maxStack-n+1), c), 103)
		}
	}
	for _, op := range []string{"20", "24", "4B"} {
		hinted(t, op+" just full", plain(), row(5), code(full(maxStack-1), op), row(5))
		refused(t, op+" too many", plain(), row(5), code(full(maxStack), op), 103)
	}
	hinted(t, "nothing more of a full stack", plain(), row(5), code(full(maxStack), "40 00 41 00 59"), row(5))
	// The bytes are read ahead of being pushed: missing ones are told first.
	for _, ops := range []string{"B0", "B8 00", "B7 01", "40", "40 02 01", "41 01 00"} {
		refused(t, "too many, and bytes missing", plain(), row(5), code(full(maxStack), ops), 101)
	}
	// What takes as many as it pushes works on a full stack.
	for _, op := range []string{"25", "26", "23", "8A", "43", "64", "68", "6C", "56", "5C", "45"} {
		hinted(t, op+" of a full stack", plain(make([]int, 9)...), row(5), code(full(maxStack), op), row(5))
	}
	for _, op := range []string{"46", "47"} {
		hinted(t, op+" of a full stack", plain(), row(1, 2, 3, 4, 5, 6), code(full(maxStack), op), row(1, 2, 3, 4, 5, 6))
	}
	hinted(t, "full and left again", plain(), row(5), code(full(maxStack), "21 B0 01 22", full(maxStack)), row(5))
}

// takes: how many numbers each instruction takes, and what stands below them for it to be right; others take none.
func takes() map[string][]int {
	out := map[string][]int{
		"20": {1}, "21": {1}, "23": {1, 1}, "25": {7, 1}, "26": {7, 1}, "8A": {1, 1, 1},
		"60": {1, 1}, "61": {1, 1}, "62": {1, 1}, "63": {1, 1}, "64": {1}, "65": {1}, "66": {1}, "67": {1}, "8B": {1, 1}, "8C": {1, 1},
		"50": {1, 1}, "51": {1, 1}, "52": {1, 1}, "53": {1, 1}, "54": {1, 1}, "55": {1, 1}, "56": {1}, "57": {1}, "5A": {1, 1}, "5B": {1, 1}, "5C": {1},
		"68": {1}, "69": {1}, "6A": {1}, "6B": {1}, "6C": {1}, "6D": {1}, "6E": {1}, "6F": {1},
		"58": {1}, "1C": {1}, "78": {1, 1}, "79": {1, 1}, "2B": {0}, "2A": {1, 0},
		"42": {1, 1}, "43": {1}, "44": {1, 1}, "70": {1, 1}, "45": {1},
		"10": {1}, "11": {1}, "12": {1}, "13": {1}, "14": {1}, "15": {1}, "16": {1}, "17": {1}, "1A": {1}, "1D": {1},
		"2E": {1}, "2F": {1}, "3E": {1, 1}, "3F": {1, 1}, "3A": {1, 1}, "3B": {1, 1}, "32": {1}, "33": {1}, "38": {1, 1}, "3C": {1}, "39": {1},
		"46": {1}, "47": {1}, "48": {1, 1}, "49": {1, 1}, "4A": {1, 1},
	}
	for op := 0xC0; op <= 0xDF; op++ {
		out[fmt.Sprintf("%02X", op)] = []int{1}
	}
	for op := 0xE0; op <= 0xFF; op++ {
		out[fmt.Sprintf("%02X", op)] = []int{1, 1}
	}
	return out
}

// P10.3: each instruction needs the numbers that it takes.
func TestTooFew(t *testing.T) {
	f := with(plain(7, 8, 9), function(0), nil)
	for ops, list := range takes() {
		c := code()
		for i, n := range list {
			refused(t, "too few", f, row(5, 70, 40), code(c, ops), 101)
			refused(t, "too few, others taken back", f, row(5, 70, 40), code("B2 01 01 01 22", c, ops), 101)
			c = code(c, n)
			if i == len(list)-1 {
				if _, e := hint.Run(f, row(5, 70, 40), code(c, ops)); e != 0 {
					t.Error(ops, "has enough", e)
				}
			}
		}
	}
	refused(t, "a function too few", with(f, code("2C 2D"), nil), row(5), nil, 101)
	hinted(t, "a function", with(f, code("B0 05 2C 2D"), nil), row(5), nil, row(5))
	for n := range 5 {
		for _, ops := range []string{"32", "33", "3C", "39"} {
			refused(t, "too few for loop", f, row(5, 70, 40), code("B0 05 17", times(n, "B0 00"), ops), 101)
		}
		refused(t, "too few for loop", f, row(5, 70, 40), code("B0 05 17", times(n, "B0 00"), "B0 00 38"), 101)
	}
	for _, ops := range []string{"32", "33", "3C", "39", "B0 00 38"} {
		if _, e := hint.Run(f, row(5, 70, 40), code("B0 05 17", times(5, "B0 00"), ops)); e != 0 {
			t.Error(ops, e)
		}
	}
}

// P10.3: what takes nothing works on an empty stack; every other byte is no instruction.
func TestKinds(t *testing.T) {
	none := []string{"22", "24", "4B", "59", "00", "01", "18", "19", "3D", "7D", "7C", "7A", "30", "31", "40 00", "41 00", "B0 01"}
	known := map[int]bool{0x1B: true, 0x2C: true, 0x2D: true}
	for op := 0xB0; op <= 0xBF; op++ {
		known[op] = true
	}
	for _, ops := range none {
		hinted(t, "takes nothing", plain(), row(5), code(ops), row(5))
		known[int(code(ops)[0])] = true
	}
	for ops := range takes() {
		known[int(code(ops)[0])] = true
	}
	count := 0
	for op := range 256 {
		if known[op] {
			count++
			continue
		}
		refused(t, "no instruction", plain(), row(5), code(byte(op)), 102)
		refused(t, "no instruction in Fpgm", with(plain(), code("B5 01 01 01 01 01 01", byte(op)), nil), row(5), nil, 102)
		refused(t, "no instruction in a function", with(plain(), function(0, byte(op)), nil), row(5), code("B0 00 2B"), 102)
		hinted(t, "passed over", with(plain(), function(0, byte(op)), nil), row(5), code("B0 00 58", byte(op), "59"), row(5))
		hinted(t, "an empty definition of none", plain(), row(5), code("B0 00 58", byte(op), "1B", "59"), row(5))
	}
	if count != 171 {
		t.Error(count, "instructions")
	}
}

// P10.3, 20 to 26 and 8A.
func TestArranged(t *testing.T) {
	leavesOf(t, "20", []int{7}, 7, 7)
	leavesOf(t, "20", []int{1, maxFix}, 1, maxFix, maxFix)
	leavesOf(t, "21", []int{7})
	leavesOf(t, "21", []int{1, 2}, 1)
	leavesOf(t, "22", nil)
	leavesOf(t, "22", []int{1, 2, 3})
	leavesOf(t, "22 24", []int{1, 2, 3}, 0)
	leavesOf(t, "23", []int{1, 2}, 2, 1)
	leavesOf(t, "23", []int{0, 1, 2}, 0, 2, 1)
	leavesOf(t, "24", nil, 0)
	leavesOf(t, "24 24", []int{9, 9}, 9, 9, 2, 3)
	leavesOf(t, "8A", []int{1, 2, 3}, 2, 3, 1)
	leavesOf(t, "8A", []int{0, 1, 2, 3}, 0, 2, 3, 1)
	failsOf(t, "8A", 101, 1, 2)
	for k, right := range map[int]int{1: 14, 2: 13, 3: 12, 4: 11} {
		of := []int{11, 12, 13, 14, k}
		leavesOf(t, "25", of, 11, 12, 13, 14, right)
		rest := slices.DeleteFunc([]int{11, 12, 13, 14}, func(n int) bool { return n == right })
		leavesOf(t, "26", of, append(rest, right)...)
	}
	for _, k := range []int{0, -1, 5, 6, maxFix, -maxFix} {
		failsOf(t, "25", 101, 11, 12, 13, 14, k)
		failsOf(t, "26", 101, 11, 12, 13, 14, k)
	}
	for _, ops := range []string{"25", "26"} {
		failsOf(t, ops, 101, 1)
		failsOf(t, ops, 101, 0)
		leavesOf(t, ops+" 21 24", []int{5, 1}, map[string][]int{"25": {5, 1}, "26": {0}}[ops]...)
	}
}

// P10.3, 60 to 63.
func TestSums(t *testing.T) {
	leavesOf(t, "60", []int{5, 32}, 37)
	leavesOf(t, "60", []int{5, -32}, -27)
	leavesOf(t, "61", []int{5, 32}, -27)
	leavesOf(t, "61", []int{32, 5}, 27)
	leavesOf(t, "60", []int{maxFix - 5, 5}, maxFix)
	leavesOf(t, "60", []int{-maxFix + 5, -5}, -maxFix)
	leavesOf(t, "60", []int{maxFix, -maxFix}, 0)
	leavesOf(t, "61", []int{maxFix, maxFix}, 0)
	leavesOf(t, "61", []int{maxFix - 5, -5}, maxFix)
	leavesOf(t, "61", []int{-maxFix + 5, 5}, -maxFix)
	failsOf(t, "60", 104, maxFix-5, 6)
	failsOf(t, "60", 104, -maxFix+5, -6)
	failsOf(t, "60", 104, maxFix, maxFix)
	failsOf(t, "60", 104, -maxFix, -maxFix)
	failsOf(t, "61", 104, maxFix-5, -6)
	failsOf(t, "61", 104, -maxFix+5, 6)
	failsOf(t, "61", 104, maxFix, -maxFix)
}

// P10.3, 62 and 63: the nearest, halves away from 0.
func TestProducts(t *testing.T) {
	for _, c := range [][3]int{
		{64, 64, 64}, {1, 31, 0}, {1, 32, 1}, {1, 33, 1}, {1, -31, 0}, {1, -32, -1}, {-1, 32, -1}, {-1, -32, 1}, {3, 32, 2}, {-3, 32, -2}, {5, 32, 3}, {0, maxFix, 0},
		{100, 100, 156}, {10, 100, 16}, {maxFix, 64, maxFix}, {-maxFix, 64, -maxFix}, {-64, maxFix, -maxFix}, {maxFix, 63, 2113929215}, {1 << 20, 1<<17 - 1, 2147467264},
	} {
		leavesOf(t, "63", []int{c[0], c[1]}, c[2])
	}
	for _, c := range [][2]int{{maxFix, 65}, {maxFix, -65}, {maxFix, maxFix}, {1 << 20, 1 << 17}, {-1 << 20, 1 << 17}, {-maxFix, maxFix}, {1<<30 + 1, 128}} {
		failsOf(t, "63", 104, c[0], c[1])
	}
	for _, c := range [][3]int{
		{64, 64, 64}, {1, 1, 64}, {1, 128, 1}, {1, 129, 0}, {-1, 128, -1}, {1, -128, -1}, {-1, -128, 1}, {3, 128, 2}, {5, 128, 3}, {0, 5, 0}, {0, -maxFix, 0}, {10, 100, 6}, {100, 10, 640},
		{7, 3, 149}, {-7, 3, -149}, {maxFix, 64, maxFix}, {maxFix, -64, -maxFix}, {maxFix, maxFix, 64}, {-maxFix, maxFix, -64}, {33554431, 1, 2147483584}, {1, maxFix, 0},
	} {
		leavesOf(t, "62", []int{c[0], c[1]}, c[2])
	}
	for _, c := range [][2]int{{33554432, 1}, {-33554432, 1}, {33554432, -1}, {maxFix, 63}, {maxFix, -63}, {maxFix, 1}, {-maxFix, 1}} {
		failsOf(t, "62", 104, c[0], c[1])
	}
	for _, a := range []int{0, 1, -1, maxFix, -maxFix} {
		failsOf(t, "62", 101, a, 0)
	}
}

// P10.3, 64 to 67, 8B and 8C.
func TestSizes(t *testing.T) {
	for _, n := range []int{0, 1, 5, 64, maxFix} {
		leavesOf(t, "64", []int{n}, n)
		leavesOf(t, "64", []int{-n}, n)
		leavesOf(t, "65", []int{n}, -n)
		leavesOf(t, "65", []int{-n}, n)
	}
	for _, c := range [][3]int{
		{0, 0, 0}, {1, 0, 64}, {63, 0, 64}, {64, 64, 64}, {65, 64, 128}, {-1, -64, 0}, {-63, -64, 0}, {-64, -64, -64}, {-65, -128, -64},
		{maxFix - 63, maxFix - 63, maxFix - 63}, {-maxFix + 63, -maxFix + 63, -maxFix + 63}, {100, 64, 128}, {-100, -128, -64},
	} {
		leavesOf(t, "66", []int{c[0]}, c[1])
		leavesOf(t, "67", []int{c[0]}, c[2])
	}
	leavesOf(t, "66", []int{maxFix}, maxFix-63)
	leavesOf(t, "67", []int{-maxFix}, -maxFix+63)
	leavesOf(t, "66", []int{-maxFix + 63}, -maxFix+63)
	leavesOf(t, "67", []int{maxFix - 63}, maxFix-63)
	for _, far := range []int{maxFix, maxFix - 1, maxFix - 62} {
		failsOf(t, "67", 104, far)
		failsOf(t, "66", 104, -far)
	}
	for _, c := range [][2]int{{1, 2}, {-1, 1}, {-2, -1}, {-maxFix, maxFix}, {7, 7}} {
		leavesOf(t, "8B", []int{c[0], c[1]}, c[1])
		leavesOf(t, "8B", []int{c[1], c[0]}, c[1])
		leavesOf(t, "8C", []int{c[0], c[1]}, c[0])
		leavesOf(t, "8C", []int{c[1], c[0]}, c[0])
	}
}

// P10.3, 50 to 55 and 5A to 5C.
func TestQuestions(t *testing.T) {
	for _, pair := range [][2]int{{1, 2}, {2, 1}, {2, 2}, {-1, 1}, {1, -1}, {0, 0}, {-maxFix, maxFix}, {maxFix, maxFix}, {0, -5}, {-5, 0}} {
		a, b := pair[0], pair[1]
		for ops, so := range map[string]bool{"50": a < b, "51": a <= b, "52": a > b, "53": a >= b, "54": a == b, "55": a != b, "5A": a != 0 && b != 0, "5B": a != 0 || b != 0} {
			leavesOf(t, ops, pair[:], flag(so))
		}
	}
	for n, right := range map[int]int{0: 1, 1: 0, -1: 0, 64: 0, maxFix: 0, -maxFix: 0} {
		leavesOf(t, "5C", []int{n}, right)
	}
}

// ways: the instruction of each way of rounding.
func ways() []string { return []string{"18", "19", "3D", "7D", "7C", "7A"} }

// P10.3, 18, 19, 3D, 7D, 7C, 7A and 68 to 6F: rounded as the way is, or as it is.
func TestRoundings(t *testing.T) {
	for n, right := range map[int][6]int{
		0: {0, 32, 0, 0, 0, 0}, 1: {0, 32, 0, 0, 64, 1}, 15: {0, 32, 0, 0, 64, 15}, 16: {0, 32, 32, 0, 64, 16}, 31: {0, 32, 32, 0, 64, 31}, 32: {64, 32, 32, 0, 64, 32},
		63: {64, 32, 64, 0, 64, 63}, 64: {64, 96, 64, 64, 64, 64}, 65: {64, 96, 64, 64, 128, 65}, 80: {64, 96, 96, 64, 128, 80}, 100: {128, 96, 96, 64, 128, 100},
	} {
		for op := 0x68; op <= 0x6F; op++ {
			for i, way := range ways() {
				to := right[i]
				if op >= 0x6C {
					to = n
				}
				leavesOf(t, way+fmt.Sprintf("%02X", op), []int{n}, to)
				if n != 0 {
					leavesOf(t, way+fmt.Sprintf("%02X", op), []int{-n}, -to)
				}
			}
		}
	}
	last := map[string]int{"18": maxFix - 32, "19": maxFix, "3D": maxFix - 16, "7D": maxFix, "7C": maxFix - 63, "7A": maxFix}
	rounded := map[string]int{"18": maxFix - 63, "19": maxFix - 31, "3D": maxFix - 31, "7D": maxFix - 63, "7C": maxFix - 63, "7A": maxFix}
	for _, way := range ways() {
		for op := 0x68; op <= 0x6F; op++ {
			c := way + fmt.Sprintf("%02X", op)
			for _, n := range []int{last[way], last[way] + 1, maxFix} {
				switch {
				case op >= 0x6C:
					leavesOf(t, c, []int{min(n, maxFix)}, min(n, maxFix))
					leavesOf(t, c, []int{-min(n, maxFix)}, -min(n, maxFix))
				case n == last[way]:
					leavesOf(t, c, []int{n}, rounded[way])
					leavesOf(t, c, []int{-n}, -rounded[way])
				case n <= maxFix:
					failsOf(t, c, 104, n)
					failsOf(t, c, 104, -n)
				}
			}
		}
	}
	leavesOf(t, "68 19 23", []int{70, 70}, 64, 70)
	leavesOf(t, "19 18 68", []int{70}, 64)
}

// P10.3, 56 and 57: the wholes of the rounded number, down; the rounding may be no FIX.
func TestOddAndEven(t *testing.T) {
	for n, odd := range map[int][6]int{
		0: {0, 0, 0, 0, 0, 0}, 1: {0, 0, 0, 0, 1, 0}, 31: {0, 0, 0, 0, 1, 0}, 32: {1, 0, 0, 0, 1, 0}, 47: {1, 0, 0, 0, 1, 0}, 48: {1, 0, 1, 0, 1, 0}, 63: {1, 0, 1, 0, 1, 0},
		64: {1, 1, 1, 1, 1, 1}, 65: {1, 1, 1, 1, 0, 1}, 95: {1, 1, 1, 1, 0, 1}, 96: {0, 1, 1, 1, 0, 1}, 127: {0, 1, 0, 1, 0, 1}, 128: {0, 0, 0, 0, 0, 0},
		-1: {0, 1, 0, 0, 1, 1}, -15: {0, 1, 0, 0, 1, 1}, -16: {0, 1, 1, 0, 1, 1}, -31: {0, 1, 1, 0, 1, 1}, -32: {1, 1, 1, 0, 1, 1}, -63: {1, 1, 1, 0, 1, 1},
		-64: {1, 0, 1, 1, 1, 1}, -65: {1, 0, 1, 1, 0, 0}, -80: {1, 0, 0, 1, 0, 0}, -96: {0, 0, 0, 1, 0, 0}, -127: {0, 0, 0, 1, 0, 0}, -128: {0, 1, 0, 0, 0, 0},
		maxFix: {0, 1, 0, 1, 0, 1}, maxFix - 31: {0, 1, 1, 1, 0, 1}, maxFix - 32: {1, 1, 1, 1, 0, 1}, maxFix - 63: {1, 1, 1, 1, 1, 1}, maxFix - 64: {1, 0, 1, 0, 1, 0},
		-maxFix: {0, 0, 0, 1, 0, 0}, -maxFix + 31: {0, 0, 0, 1, 0, 0}, -maxFix + 32: {1, 0, 0, 1, 0, 0}, -maxFix + 63: {1, 0, 1, 1, 1, 1}, -maxFix + 64: {1, 1, 1, 0, 1, 1},
	} {
		for i, way := range ways() {
			leavesOf(t, way+"56", []int{n}, odd[i])
			leavesOf(t, way+"57", []int{n}, 1-odd[i])
		}
	}
}

// P10.3, 42 and 43: the store.
func TestStore(t *testing.T) {
	leaves(t, "put", plain(), code(0, 7, "42", 63, -9, "42 B0 00 43 B0 3F 43 B0 01 43"), 7, -9, 0)
	leaves(t, "put over", plain(), code(5, 7, "42", 5, 8, "42 B0 05 43"), 8)
	leaves(t, "the ends of FIX", plain(maxFix, -maxFix), code(1, "B0 00 45 42", 2, "B0 01 45 42 B0 01 43 B0 02 43"), maxFix, -maxFix)
	for _, i := range []int{-1, 64, 65, maxFix, -maxFix} {
		failsOf(t, "43", 101, i)
		failsOf(t, "42", 101, i, 5)
	}
	leavesOf(t, "42", []int{63, maxFix})
}

// P10.3, 44, 70 and 45: the control values.
func TestControlValues(t *testing.T) {
	f := api.HintFont{Size: 640, Units: 1000, Cvt: []int{100, -200, 300}}
	leaves(t, "asked", f, code("B0 00 45 B0 01 45 B0 02 45"), 64, -128, 192)
	leaves(t, "put", f, code("B0 02", -77, "44 B0 02 45 B0 01 45"), -77, -128)
	leaves(t, "put in units", f, code("B0 00", -150, "70 B0 00 45 B0 02 45"), -96, 192)
	leaves(t, "the nearest", api.HintFont{Size: 1, Units: 64, Cvt: []int{9, 9, 9, 9}}, code("B1 00 1F 70 B1 01 20 70 B0 02", -32, "70 B0 03", -31, "70 B0 00 45 B0 01 45 B0 02 45 B0 03 45"), 0, 1, -1, 0)
	for _, i := range []int{-1, 3, 4} {
		refused(t, "45", f, row(5), code(i, "45"), 101)
		refused(t, "44", f, row(5), code(i, 5, "44"), 101)
		refused(t, "70", f, row(5), code(i, 5, "70"), 101)
	}
	for _, ops := range []string{"B0 00 45", "B1 00 05 44", "B1 00 05 70"} {
		refused(t, "no control values", plain(), row(5), code(ops), 101)
	}
	wide := api.HintFont{Size: 65536, Units: 16, Cvt: []int{0, 524287, -524287}}
	leaves(t, "the last that is a FIX", wide, code("B0 00", 32767, "70 B0 00", -32768, "70 B0 00 45"), -32768*4096)
	refused(t, "no FIX", wide, row(5), code("B0 00", "B0 01 45", "70"), 104)
	refused(t, "no FIX below 0", wide, row(5), code("B0 00", "B0 02 45", "70"), 104)
}

// P10.3, 70: both sides of the ends of FIX.
func TestScaledPut(t *testing.T) {
	for _, c := range []struct {
		v    int
		want api.Errno
	}{{1073741823, 0}, {1073741824, 104}, {-1073741823, 0}, {-1073741824, 104}, {maxFix, 104}, {-maxFix, 104}} {
		// In units the value is half as much as at the size, so that it is there to be pushed.
		f := api.HintFont{Size: 128, Units: 64, Cvt: []int{0, c.v / 2, c.v - c.v/2*2}}
		ops := code("B0 00", "B0 01 45 B0 02 45 B0 20 63 60", "70 B0 00 45")
		if c.want != 0 {
			refused(t, "no FIX", f, row(5), ops, c.want)
		} else {
			leaves(t, "a FIX", f, ops, 2*c.v)
		}
	}
	// Of two faults the value that isn't there is told.
	f := plain(maxFix)
	f.Size, f.Cvt[0] = 128, 1073741823
	refused(t, "both", f, row(5), code("B0 01", "B0 00 45", "70"), 101)
	refused(t, "one", f, row(5), code("B0 00", "B0 00 45", "70"), 104)
}

// P10.3, 4B: the size in wholes.
func TestSize(t *testing.T) {
	for size, right := range map[int]int{1: 0, 31: 0, 32: 1, 33: 1, 64: 1, 95: 1, 96: 2, 640: 10, 65503: 1023, 65504: 1024, 65535: 1024, 65536: 1024} {
		leaves(t, "4B", api.HintFont{Size: size, Units: 1000}, code("4B"), right)
		leaves(t, "4B in any way", api.HintFont{Size: size, Units: 1000}, code("7C 4B"), right)
	}
}
