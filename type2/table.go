package type2

import (
	"serif/api"
	"serif/peek"
)

// index is a list of pieces of the table.
type index struct {
	offsets []int      // where each piece begins and the last one ends; none, if there are no pieces
	data    *peek.View // what the offsets count in: from the byte ahead of the pieces on
}

// readIndex: the INDEX at a place, and where it ends.
func readIndex(v *peek.View, at int) (index, int, api.Errno) {
	r := row{bytes: v, at: at}
	n := r.number()
	if r.cut {
		return index{}, 0, api.ErrType2
	}
	if n == 0 {
		return index{}, r.at, api.OK
	}
	offsets := r.offsets(n+1, r.byte())
	if r.cut || !rise(offsets) {
		return index{}, 0, api.ErrType2
	}
	ahead, size := r.at-1, offsets[n]
	data, e := v.Cut(ahead, size)
	if e != api.OK {
		return index{}, 0, api.ErrType2
	}
	return index{offsets, data}, ahead + size, api.OK
}

// rise: is the first offset 1, and none less than the one ahead of it?
func rise(offsets []int) bool {
	if len(offsets) == 0 || offsets[0] != 1 {
		return false
	}
	for i := range len(offsets) - 1 {
		if offsets[i+1] < offsets[i] {
			return false
		}
	}
	return true
}

// count: how many pieces.
func (x index) count() int { return max(0, len(x.offsets)-1) }

// piece: the i-th one, which must be there.
func (x index) piece(i int) *peek.View {
	from, to := x.offsets[i], x.offsets[i+1]
	piece, _ := x.data.Cut(from, to-from) // it lies within: the last piece does, and the offsets rise
	return piece
}

// dict is a DICT: operators, with their operands.
type dict map[int][]int

// readDict: a DICT, read whole.
func readDict(v *peek.View) (dict, api.Errno) {
	d := dict{}
	r := row{bytes: v}
	var operands []int
	for r.left() {
		b := r.byte()
		if n, ok := r.dictOperand(b); ok {
			operands = append(operands, n)
			continue
		}
		if b > lastDictOperator || len(operands) > api.MaxStack {
			return nil, api.ErrType2
		}
		d[r.operator(b)] = operands
		operands = nil
	}
	if r.cut {
		return nil, api.ErrType2
	}
	return d, api.OK
}

// has: is the operator there?
func (d dict) has(operator int) bool {
	_, ok := d[operator]
	return ok
}

// last: the last n operands of an operator, which must be there.
func (d dict) last(operator, n int) ([]int, api.Errno) {
	operands := d[operator]
	if len(operands) < n {
		return nil, api.ErrType2
	}
	return operands[len(operands)-n:], api.OK
}

// number: the last operand of an operator, or another number, if the operator isn't there.
func (d dict) number(operator, other int) (int, api.Errno) {
	if !d.has(operator) {
		return other, api.OK
	}
	list, e := d.last(operator, 1)
	if e != api.OK {
		return 0, e
	}
	return list[0], api.OK
}
