package read

import (
	"math"

	"plainsong/leb"
)

// indexBits is the width of indices, lengths and counts.
const indexBits = 32

// reader takes an encoding apart from its front on. Once a byte is missing or wrong it takes nothing more and answers zeros: so who reads several things asks once, behind them, whether something was wrong.
type reader struct {
	b     []byte // up to the end of the part that is being read
	at    int    // how many of them are taken
	wrong bool
}

func (r *reader) fail() {
	r.wrong = true
}

// more reports whether there is still something to read.
func (r *reader) more() bool {
	return !r.wrong && r.at < len(r.b)
}

// bytes takes the next n bytes. They are those of the encoding itself: what is kept of them has to be copied.
func (r *reader) bytes(n int) []byte {
	if r.wrong || n > len(r.b)-r.at {
		r.fail()
		return nil
	}
	b := r.b[r.at : r.at+n]
	r.at += n
	return b
}

// one takes the next byte.
func (r *reader) one() byte {
	if b := r.bytes(1); len(b) > 0 {
		return b[0]
	}
	return 0
}

// want takes the next byte, which must be v.
func (r *reader) want(v byte) {
	if r.one() != v {
		r.fail()
	}
}

// unsigned takes a number of 32 bits.
func (r *reader) unsigned() uint64 {
	n, end, is := leb.ReadU(r.b, r.at, indexBits)
	if r.wrong || !is {
		r.fail()
		return 0
	}
	r.at = end
	return n
}

// number takes an index, a length or a count. No module has one above MaxInt32, and one that isn't above it is an int everywhere.
func (r *reader) number() int {
	n := r.unsigned()
	if n > math.MaxInt32 {
		r.fail()
		return 0
	}
	return int(n)
}

// signed takes a signed number of so many bits.
func (r *reader) signed(bits int) int64 {
	n, end, is := leb.ReadS(r.b, r.at, bits)
	if r.wrong || !is {
		r.fail()
		return 0
	}
	r.at = end
	return n
}

// double takes the eight bytes of a floating-point number.
func (r *reader) double() uint64 {
	n := uint64(0)
	for i, v := range r.bytes(8) {
		n |= uint64(v) << (8 * i)
	}
	return n
}

// sized takes the bytes whose number stands before them.
func (r *reader) sized() []byte {
	return r.bytes(r.number())
}

// name takes a name; whether it is valid is a matter of the module.
func (r *reader) name() string {
	return string(r.sized())
}

// enter makes the bytes whose number stands before them all that there is to read, and returns all that there was.
func (r *reader) enter() []byte {
	all, n := r.b, r.number()
	if n > len(all)-r.at {
		r.fail()
		return all
	}
	r.b = all[:r.at+n]
	return all
}

// leave ends the part that enter began, of which nothing may be left.
func (r *reader) leave(all []byte) {
	if r.at < len(r.b) {
		r.fail()
	}
	r.b = all
}

// list takes as many elements as the number before them says. Each of them has at least one byte, so a number that is too great ends with the bytes.
func list[T any](r *reader, one func(*reader) T) []T {
	var l []T
	for range r.number() {
		v := one(r)
		if r.wrong {
			return nil
		}
		l = append(l, v)
	}
	return l
}
