package type2

import (
	"serif/api"
	"serif/peek"
)

// What a byte begins, in DICTs and in programs.
const (
	twoBytes         = 28  // a number of two bytes
	fourBytes        = 29  // a number of four bytes, in a DICT
	realNumber       = 30  // in a DICT
	fixedPoint       = 255 // a number in 16.16, in a program
	longOperator     = 12
	lastDictOperator = 21
	firstSmall       = 32 // a number of its own
	firstAbove       = 247
	firstBelow       = 251
)

const (
	smallZero = 139  // the byte that stands for 0
	beyond    = 108  // the least size of numbers that don't fit in their byte
	longBase  = 1200 // what is added to the byte behind longOperator
	realEnd   = 15   // the half of a byte that ends a real
	point     = 16   // the bits behind the point in 16.16
	one       = 1 << point
)

// row goes through bytes. Bytes that aren't there are 0, and leave it cut: who reads asks for that ahead of any use.
type row struct {
	bytes *peek.View
	at    int
	cut   bool
}

// left: is there another byte?
func (r *row) left() bool { return r.at < r.bytes.Len() }

// next: the number that read finds in the next size bytes.
func (r *row) next(read func(at int) (int, api.Errno), size int) int {
	n, e := read(r.at)
	if e != api.OK {
		r.cut = true
	}
	r.at += size
	return n
}

// byte: the next number of one byte.
func (r *row) byte() int { return r.next(r.bytes.U8, 1) }

// number: the next number of two bytes.
func (r *row) number() int { return r.next(r.bytes.U16, 2) }

// signed: the next number of two bytes, with its sign.
func (r *row) signed() int { return r.next(r.bytes.I16, 2) }

// signedLong: the next number of four bytes, with its sign.
func (r *row) signedLong() int { return int(int32(r.next(r.bytes.U32, 4))) }

// pass: passes over n bytes.
func (r *row) pass(n int) {
	if _, e := r.bytes.Cut(r.at, n); e != api.OK {
		r.cut = true
	}
	r.at += n
}

// offsets: the next n numbers of so many bytes each; none, if numbers can't have so many.
func (r *row) offsets(n, size int) []int {
	read := r.bytes.U8
	switch size {
	case 1:
	case 2:
		read = r.bytes.U16
	case 3:
		read = r.bytes.U24
	case 4:
		read = r.bytes.U32
	default:
		return nil
	}
	list := make([]int, n)
	for i := range list {
		list[i] = r.next(read, size)
	}
	return list
}

// operand: the operand that begins with the byte b, in a form that DICTs and programs share.
func (r *row) operand(b int) (int, bool) {
	switch {
	case b == twoBytes:
		return r.signed(), true
	case b < firstSmall || b == fixedPoint:
		return 0, false
	case b < firstAbove:
		return b - smallZero, true
	case b < firstBelow:
		return (b-firstAbove)*256 + r.byte() + beyond, true
	}
	return -(b-firstBelow)*256 - r.byte() - beyond, true
}

// dictOperand: the operand of a DICT that begins with the byte b.
func (r *row) dictOperand(b int) (int, bool) {
	switch b {
	case fourBytes:
		return r.signedLong(), true
	case realNumber:
		r.passReal()
		return 0, true
	}
	return r.operand(b)
}

// passReal: passes over what is left of a real.
func (r *row) passReal() {
	for !r.cut {
		if b := r.byte(); b>>4 == realEnd || b&15 == realEnd {
			return
		}
	}
}

// programOperand: the operand of a program that begins with the byte b, in 16.16.
func (r *row) programOperand(b int) (int, bool) {
	if b == fixedPoint {
		return r.signedLong(), true
	}
	n, ok := r.operand(b)
	return n * one, ok
}

// operator: the operator that begins with the byte b.
func (r *row) operator(b int) int {
	if b == longOperator {
		return longBase + r.byte()
	}
	return b
}
