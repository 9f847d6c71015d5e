package pages_test

import (
	"bytes"
	"math"
	"math/big"
	"slices"
	"strconv"
	"testing"

	"plainsong/api"
	"plainsong/pages"
)

// second is the chapter's memory once more: one byte after the other, and sums of any size.
type second struct {
	bytes []byte
	max   int
}

// exist tells whether n bytes at the offset exist.
func (s *second) exist(at, n uint64) bool {
	end := new(big.Int).Add(new(big.Int).SetUint64(at), new(big.Int).SetUint64(n))
	return end.Cmp(big.NewInt(int64(len(s.bytes)))) <= 0
}

// holds tells whether a number of n bytes at the offset exists.
func (s *second) holds(at uint64, n int) bool {
	return slices.Contains([]int{1, 2, 4, 8}, n) && s.exist(at, uint64(n))
}

func (s *second) pages() int { return len(s.bytes) / 1024 }

func (s *second) grow(n int) int {
	was := s.pages()
	if n < 0 || new(big.Int).Add(big.NewInt(int64(n)), big.NewInt(int64(was))).Cmp(big.NewInt(int64(s.max))) > 0 {
		return -1
	}
	for range n * 1024 {
		s.bytes = append(s.bytes, 0)
	}
	return was
}

func (s *second) load(at uint64, n int) (uint64, bool) {
	if !s.holds(at, n) {
		return 0, false
	}
	v := uint64(0)
	for i := n - 1; i >= 0; i-- {
		v = v*256 + uint64(s.bytes[int(at)+i])
	}
	return v, true
}

func (s *second) store(at uint64, n int, v uint64) bool {
	if !s.holds(at, n) {
		return false
	}
	for i := range n {
		s.bytes[int(at)+i] = byte(v % 256)
		v /= 256
	}
	return true
}

func (s *second) fill(at uint64, v byte, n uint64) bool {
	if !s.exist(at, n) {
		return false
	}
	return s.put(at, bytes.Repeat([]byte{v}, int(n)))
}

func (s *second) put(at uint64, b []byte) bool {
	if !s.exist(at, uint64(len(b))) {
		return false
	}
	for i, x := range b {
		s.bytes[int(at)+i] = x
	}
	return true
}

// take writes into s what from has at src before the call.
func (s *second) take(at uint64, from *second, src, n uint64) bool {
	if !s.exist(at, n) || !from.exist(src, n) {
		return false
	}
	return s.put(at, bytes.Clone(from.bytes[src:src+n]))
}

// pair is a memory beside its second one.
type pair struct {
	t *testing.T
	m *pages.Memory
	s *second
}

// begin returns a pair whose bytes all differ from those near them.
func begin(t *testing.T, min, max int) pair {
	t.Helper()
	p := pair{t, pages.New(min, max), &second{make([]byte, min*1024), max}}
	if p.m == nil {
		t.Fatalf("P12.1: New(%d, %d): nil", min, max)
	}
	p.same("New")
	for at := 0; at < len(p.s.bytes); at++ {
		p.s.bytes[at] = byte(at + at/251 + 1)
	}
	if !p.m.Put(0, bytes.Clone(p.s.bytes)) {
		t.Fatalf("P12.1: Put of all %d bytes", len(p.s.bytes))
	}
	p.same("Put of all bytes")
	return p
}

// same holds all that can be seen of the memory against the second one.
func (p pair) same(what string) {
	p.t.Helper()
	if !bytes.Equal(p.m.Bytes(), p.s.bytes) || p.m.Pages() != p.s.pages() || p.m.Max() != p.s.max {
		p.t.Errorf("P12.1: after %s: %d pages, at most %d, want %d, %d; the bytes differ from %d on", what, p.m.Pages(), p.m.Max(), p.s.pages(), p.s.max, differ(p.m.Bytes(), p.s.bytes))
	}
}

// differ tells where the first byte is that isn't the same.
func differ(a, b []byte) int {
	for i := range min(len(a), len(b)) {
		if a[i] != b[i] {
			return i
		}
	}
	return min(len(a), len(b))
}

// told is a call as the tests name it.
func told(name string, l ...uint64) string {
	s := name + "("
	for i, v := range l {
		if i > 0 {
			s += ", "
		}
		s += strconv.FormatUint(v, 10)
	}
	return s + ")"
}

// answers holds what a call answered against what it should, and then the memory.
func (p pair) answers(got, want bool, name string, l ...uint64) {
	p.t.Helper()
	if got != want {
		p.t.Errorf("P12.1: %s of %d pages: %v", told(name, l...), p.s.pages(), got)
	}
	p.same(told(name, l...))
}

func (p pair) grow(n int) {
	p.t.Helper()
	was := p.s.pages()
	if got, want := p.m.Grow(n), p.s.grow(n); got != want {
		p.t.Errorf("P12.1: Grow(%d) of %d pages, at most %d: %d, want %d", n, was, p.s.max, got, want)
	}
	p.same(told("Grow", uint64(n)))
}

func (p pair) load(at uint64, n int) {
	p.t.Helper()
	v, ok := p.m.Load(at, n)
	if w, is := p.s.load(at, n); v != w || ok != is {
		p.t.Errorf("P12.1: Load(%d, %d) of %d pages: %#x, %v, want %#x, %v", at, n, p.s.pages(), v, ok, w, is)
	}
}

func (p pair) store(at uint64, n int, v uint64) {
	p.t.Helper()
	p.answers(p.m.Store(at, n, v), p.s.store(at, n, v), "Store", at, uint64(n), v)
}

func (p pair) fill(at uint64, v byte, n uint64) {
	p.t.Helper()
	p.answers(p.m.Fill(at, v, n), p.s.fill(at, v, n), "Fill", at, uint64(v), n)
}

// put puts a slice whose spare capacity isn't to be read, and holds it against what it was.
func (p pair) put(at uint64, b []byte) {
	p.t.Helper()
	room := append(bytes.Clone(b), "behind the end"...)
	was := bytes.Clone(room)
	p.answers(p.m.Put(at, room[:len(b)]), p.s.put(at, b), "Put of bytes", at, uint64(len(b)))
	if !bytes.Equal(room, was) {
		p.t.Errorf("R2: %s has changed its bytes", told("Put of bytes", at, uint64(len(b))))
	}
}

func (p pair) take(at uint64, from pair, src, n uint64) {
	p.t.Helper()
	p.answers(pages.Copy(p.m, at, from.m, src, n), p.s.take(at, from.s, src, n), "Copy", at, src, n)
	from.same("Copy from it")
}

// near are offsets and numbers of bytes on both sides of each border of a memory of so many pages, and those whose sums with small numbers overflow.
func near(pages int) []uint64 {
	end := uint64(pages) * api.Page
	var l []uint64
	for d := range uint64(10) {
		l = append(l, d, end+d, -d-1)
		if end > 9 {
			l = append(l, end-d-1)
		}
	}
	for _, k := range []int{16, 31, 32, 62, 63} {
		l = append(l, 1<<k-1, 1<<k, 1<<k+1)
		if end > 0 {
			l = append(l, 1<<k+end-1, 1<<k+end, -(uint64(1)<<k)+end)
		}
	}
	if end > 0 {
		l = append(l, end/2, -end-1, -end, -end+1, math.MaxUint64-end/2)
	}
	slices.Sort(l)
	return slices.Compact(l)
}
