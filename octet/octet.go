// Package octet is numbers and texts as bytes.
package octet

import (
	"bytes"
	"math/bits"

	"lookout/api"
)

// wide is the least number that needs bytes behind its first one; a first byte of wide and above tells how many.
const wide = 248

// Put is numbers as bytes, one behind the other.
func Put(l ...uint64) []byte {
	var b []byte
	for _, u := range l {
		b = add(b, u)
	}
	return b
}

// add is b, and the bytes of u behind it.
func add(b []byte, u uint64) []byte {
	if u < wide {
		return append(b, byte(u))
	}
	k := width(u)
	b = append(b, byte(wide-1+k))
	for i := range k {
		b = append(b, byte(u>>(8*(k-1-i))))
	}
	return b
}

// width is the fewest bytes that u has room in.
func width(u uint64) int { return (bits.Len64(u) + 7) / 8 }

// Take is the number that bytes begin with, and how many bytes it has.
func Take(b []byte) (uint64, int, api.Errno) {
	if len(b) == 0 {
		return 0, 0, api.ErrShort
	}
	if b[0] < wide {
		return uint64(b[0]), 1, api.OK
	}
	n := int(b[0]) - wide + 2
	if len(b) < n {
		return 0, 0, api.ErrShort
	}
	var u uint64
	for _, c := range b[1:n] {
		u = u<<8 | uint64(c)
	}
	if u < wide || width(u) < n-1 {
		return 0, 0, api.ErrForm
	}
	return u, n, api.OK
}

// Texts is texts as bytes.
func Texts(l ...string) []byte {
	var b []byte
	for _, s := range l {
		b = append(add(b, uint64(len(s))), s...)
	}
	return b
}

// Sign is a number with a sign as one without.
func Sign(n int64) uint64 {
	if n < 0 {
		// -2n - 1 is 2(-1 - n) + 1, where -1 - n has room even for the least number.
		return uint64(-1-n)<<1 | 1
	}
	return uint64(n) << 1
}

// Plain is the number with a sign that Sign made it of.
func Plain(u uint64) int64 {
	if u&1 == 1 {
		return -1 - int64(u>>1)
	}
	return int64(u >> 1)
}

// Reader reads bytes from their beginning on.
type Reader struct {
	rest []byte
	err  api.Errno
}

// Open is a reader of bytes.
func Open(b []byte) *Reader { return &Reader{rest: bytes.Clone(b)} }

// fail keeps the first error, behind which no bytes are left.
func (r *Reader) fail(e api.Errno) { r.rest, r.err = nil, e }

// Num is the next number.
func (r *Reader) Num() uint64 {
	if r.Err() != api.OK {
		return 0
	}
	u, n, e := Take(r.rest)
	if e != api.OK {
		r.fail(e)
		return 0
	}
	r.rest = r.rest[n:]
	return u
}

// Int is the next number with a sign.
func (r *Reader) Int() int64 { return Plain(r.Num()) }

// Moment is the next moment.
func (r *Reader) Moment() int64 {
	u := r.Num()
	if u > uint64(api.Last) {
		r.fail(api.ErrLong)
		return 0
	}
	return int64(u)
}

// Text is the next text, of so many bytes at most.
func (r *Reader) Text(most int) string {
	n := r.Num()
	if r.Err() != api.OK {
		return ""
	}
	if n > uint64(max(most, 0)) {
		r.fail(api.ErrLong)
		return ""
	}
	if n > uint64(len(r.rest)) {
		r.fail(api.ErrShort)
		return ""
	}
	s := string(r.rest[:n])
	r.rest = r.rest[n:]
	return s
}

// Left is how many bytes are left.
func (r *Reader) Left() int {
	if r == nil {
		return 0
	}
	return len(r.rest)
}

// Err is the first error.
func (r *Reader) Err() api.Errno {
	if r == nil {
		return api.ErrShort
	}
	return r.err
}

// End is the first error; else whether bytes are left.
func (r *Reader) End() api.Errno {
	if e := r.Err(); e != api.OK {
		return e
	}
	if r.Left() > 0 {
		return api.ErrLeft
	}
	return api.OK
}
