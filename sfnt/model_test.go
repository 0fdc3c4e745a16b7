package sfnt_test

import (
	"bytes"
	"encoding/binary"
	"math/big"
	"slices"
	"strings"

	"serif/api"
	"serif/sfnt"
)

// line is a row of a directory as a test writes it: right or wrong.
type line struct {
	tag           string
	sum, at, size uint32
}

// words: numbers of four bytes, one behind the other.
func words(list ...uint32) []byte {
	var out []byte
	for _, n := range list {
		out = binary.BigEndian.AppendUint32(out, n)
	}
	return out
}

// join: the parts, one behind the other.
func join(parts ...[]byte) []byte { return bytes.Join(parts, nil) }

// heading: the twelve bytes ahead of a directory's rows; the six that aren't looked at are no zeros.
func heading(first string, count int) []byte {
	return join([]byte(first), binary.BigEndian.AppendUint16(nil, uint16(count)), []byte{255, 1, 2, 3, 4, 254})
}

// lines: the bytes of rows.
func lines(list ...line) []byte {
	var out []byte
	for _, l := range list {
		out = join(out, []byte(l.tag), words(l.sum, l.at, l.size))
	}
	return out
}

// check: the sum of bytes by numbers without an end, from the last byte on.
func check(b []byte) uint32 {
	sum := new(big.Int)
	for i, x := range slices.Backward(b) {
		sum.Add(sum, new(big.Int).Lsh(big.NewInt(int64(x)), uint(8*(3-i%4))))
	}
	return uint32(sum.Mod(sum, new(big.Int).Lsh(big.NewInt(1), 32)).Uint64())
}

// read: the number that n bytes write, if they are there.
func read(b []byte, at uint64, n int) (uint64, bool) {
	if at > uint64(len(b)) || uint64(n) > uint64(len(b))-at {
		return 0, false
	}
	var eight [8]byte
	copy(eight[8-n:], b[at:])
	return binary.BigEndian.Uint64(eight[:]), true
}

// answer is what Open is to answer.
type answer struct {
	e    api.Errno
	kind int
	rows []api.Table
}

// model: the steps of P3.2, word by word.
func model(b []byte, face int) answer {
	if len(b) > 1048576 {
		return answer{e: 33}
	}
	start, e := modelStart(b, face)
	if e != 0 {
		return answer{e: e}
	}
	out := answer{}
	first, there := read(b, start, 4)
	switch {
	case !there:
		return answer{e: 31}
	case first == 0x00010000 || first == 0x74727565:
		out.kind = 1
	case first == 0x4F54544F:
		out.kind = 2
	default:
		return answer{e: 32}
	}
	count, there := read(b, start+4, 2)
	if !there || count == 0 {
		return answer{e: 31}
	}
	if count > 64 {
		return answer{e: 33}
	}
	for i := range count {
		row, ok := modelRow(b, start+12+16*i)
		if !ok || i > 0 && strings.Compare(row.Tag, out.rows[i-1].Tag) != 1 {
			return answer{e: 31}
		}
		out.rows = append(out.rows, row)
	}
	return out
}

// modelStart: step 2.
func modelStart(b []byte, face int) (uint64, api.Errno) {
	if len(b) < 4 {
		return 0, 31
	}
	if string(b[:4]) != "ttcf" {
		if face != 0 {
			return 0, 35
		}
		return 0, 0
	}
	version, there := read(b, 4, 4)
	if !there {
		return 0, 31
	}
	if version != 65536 && version != 131072 {
		return 0, 32
	}
	count, there := read(b, 8, 4)
	if !there || count == 0 {
		return 0, 31
	}
	if count > 64 {
		return 0, 33
	}
	if face < 0 || uint64(face) >= count {
		return 0, 35
	}
	start, there := read(b, 12+4*uint64(face), 4)
	if !there {
		return 0, 31
	}
	return start, 0
}

// modelRow: step 4 of one row, but for the order of the tags.
func modelRow(b []byte, at uint64) (api.Table, bool) {
	if _, there := read(b, at, 4); !there {
		return api.Table{}, false
	}
	sum, _ := read(b, at+4, 4)
	place, _ := read(b, at+8, 4)
	size, there := read(b, at+12, 4)
	if !there || place%4 != 0 || place+size > uint64(len(b)) {
		return api.Table{}, false
	}
	tag := string(b[at : at+4])
	if tag != "head" && uint64(check(b[place:place+size])) != sum {
		return api.Table{}, false
	}
	return api.Table{Tag: tag, At: int(place), Len: int(size)}, true
}

// differs: what is wrong with Open of these bytes; nothing, if it answers as it is to.
func differs(b []byte, face int, want answer) string {
	f, e := sfnt.Open(b, face)
	if e != want.e {
		return "answers " + e.Error() + ", not " + want.e.Error()
	}
	if e != 0 {
		if f != nil {
			return "answers a font beside " + e.Error()
		}
		return ""
	}
	if f == nil || f.Kind() != want.kind || !slices.Equal(f.Tables(), want.rows) {
		return "answers another font"
	}
	for _, r := range want.rows {
		if v, ok := f.Table(r.Tag); !ok || v == nil || !bytes.Equal(v.Bytes(), b[r.At:r.At+r.Len]) {
			return "answers another table " + r.Tag
		}
	}
	return ""
}
