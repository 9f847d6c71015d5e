package pages_test

import (
	"bytes"
	"math"
	"testing"

	"plainsong/api"
	"plainsong/pages"
)

func TestExamples(t *testing.T) {
	if n := pages.New(1, 2).Grow(5); n != -1 {
		t.Errorf("P12.1: New(1, 2), Grow(5): %d", n)
	}
	if !pages.New(1, 1).Fill(1024, 7, 0) || !pages.New(0, 0).Fill(0, 7, 0) {
		t.Error("P12.1: Fill of no bytes at the end: false")
	}
	if v, ok := pages.New(1, 1).Load(1023, 2); v != 0 || ok {
		t.Errorf("P12.1: Load(1023, 2) of one page: %d, %v", v, ok)
	}
}

func TestNew(t *testing.T) {
	edges := []int{math.MinInt, math.MinInt32, -512, -2, -1, 0, 1, 2, 3, 63, 64, 255, 256, 510, 511, 512, 513, 514, 1024, 1 << 16, 1 << 32, 1<<32 + 1, 1 << 54, math.MaxInt}
	for _, min := range edges {
		for _, max := range edges {
			m := pages.New(min, max)
			if is := 0 <= min && min <= max && max <= 512; is != (m != nil) {
				t.Errorf("P12.1: New(%d, %d): there is one: %v", min, max, m != nil)
			}
			if m != nil && (m.Pages() != min || m.Max() != max || !bytes.Equal(m.Bytes(), make([]byte, 1024*min))) {
				t.Errorf("P12.1: New(%d, %d): %d pages, at most %d, %d bytes, or not all are 0", min, max, m.Pages(), m.Max(), len(m.Bytes()))
			}
		}
	}
}

// Each memory of few pages grows by each number of pages, and by some that are no numbers of pages at all.
func TestGrow(t *testing.T) {
	odd := []int{math.MinInt, math.MinInt + 1, math.MinInt32, -1024, -2, -1, 513, 1 << 16, 1 << 32, 1<<32 + 1, 1 << 53, 1 << 54, 1<<54 + 1, math.MaxInt - 2, math.MaxInt - 1, math.MaxInt}
	for max := range 6 {
		for min := range max + 1 {
			for n := range max + 3 {
				begin(t, min, max).grow(n)
			}
			p := begin(t, min, max)
			for _, n := range odd {
				p.grow(n)
			}
			for range max + 2 {
				p.grow(1)
				p.grow(0)
				p.grow(-1)
			}
		}
	}
}

func TestGrowsToMaxPages(t *testing.T) {
	p := begin(t, 1, api.MaxPages)
	for n := range api.MaxPages {
		p.m.Fill(uint64(n)*api.Page, byte(n+1), api.Page)
		p.s.fill(uint64(n)*api.Page, byte(n+1), api.Page)
		p.grow(1)
	}
	p.grow(0)
	p = begin(t, 0, api.MaxPages)
	p.grow(513)
	p.grow(512)
	p.grow(1)
	if got := begin(t, 511, api.MaxPages).m.Grow(2); got != -1 {
		t.Errorf("P12.1: Grow(2) of 511 pages: %d", got)
	}
}

// What has grown is part of the memory like the rest, with what was there before.
func TestGrownPagesAreUsed(t *testing.T) {
	p := begin(t, 1, 3)
	p.store(1020, 8, math.MaxUint64)
	p.load(1020, 8)
	p.grow(1)
	p.load(1016, 8)
	p.load(1020, 8)
	p.store(1020, 8, 0x1122334455667788)
	p.load(1020, 8)
	p.fill(2047, 0xaa, 1)
	p.fill(2047, 0xbb, 2)
	p.grow(1)
	p.load(2040, 8)
	p.fill(2047, 0xbb, 2)
	p.put(2046, []byte("wide"))
	p.take(1, p, 1500, 1572)
}

// sizes of numbers: those that exist, those beside them, and those that others are cut off from.
func sizes() []int {
	l := []int{math.MinInt, math.MinInt32, -8, -4, -2, -1, 12, 15, 16, 17, 32, 64, 256, 257, 258, 260, 264, 1024, 1<<16 + 1, 1<<32 + 1, 1<<32 + 8, math.MaxInt - 7, math.MaxInt}
	for n := range 11 {
		l = append(l, n)
	}
	return l
}

func TestLoad(t *testing.T) {
	for _, count := range []int{0, 1, 2, 3} {
		p := begin(t, count, 3)
		for _, at := range near(count) {
			for _, n := range sizes() {
				p.load(at, n)
			}
		}
		for at := range uint64(count) * api.Page {
			for _, n := range []int{1, 2, 4, 8} {
				p.load(at, n)
			}
		}
		p.same("Load")
	}
}

func TestLoadsTheLeastByteFirst(t *testing.T) {
	m := pages.New(1, 1)
	m.Put(3, []byte{0x81, 0x92, 0xa3, 0xb4, 0xc5, 0xd6, 0xe7, 0xf8})
	for n, want := range map[int]uint64{1: 0x81, 2: 0x9281, 4: 0xb4a39281, 8: 0xf8e7d6c5b4a39281} {
		if v, ok := m.Load(3, n); v != want || !ok {
			t.Errorf("P12.1: Load(3, %d): %#x, %v, want %#x", n, v, ok, want)
		}
	}
}

func TestStore(t *testing.T) {
	values := []uint64{0, 1, 0xff, 0x0102030405060708, 0xfedcba9876543210, math.MaxUint64}
	for _, count := range []int{0, 1, 2} {
		p := begin(t, count, 3)
		for i, at := range near(count) {
			for j, n := range sizes() {
				p.store(at, n, values[(i+j)%len(values)]+uint64(i))
			}
		}
	}
}

func TestStoresTheLowestBytes(t *testing.T) {
	const v = 0xf8e7d6c5b4a39281
	for n, want := range map[int]string{1: "\x81", 2: "\x81\x92", 4: "\x81\x92\xa3\xb4", 8: "\x81\x92\xa3\xb4\xc5\xd6\xe7\xf8"} {
		m := pages.New(1, 1)
		ok := m.Store(5, n, v)
		if b := m.Bytes(); !ok || string(b[5:5+n]) != want || !bytes.Equal(b[:5], make([]byte, 5)) || !bytes.Equal(b[5+n:], make([]byte, 1024-5-n)) {
			t.Errorf("P12.1: Store(5, %d, %#x): %v, % x", n, uint64(v), ok, b[:16])
		}
	}
}

func TestFill(t *testing.T) {
	for _, count := range []int{0, 1, 2} {
		p := begin(t, count, 3)
		for i, at := range near(count) {
			for j, n := range near(count) {
				p.fill(at, byte(7*i+j+1), n)
			}
		}
	}
}

func TestPut(t *testing.T) {
	for _, count := range []int{0, 1, 2} {
		p := begin(t, count, 3)
		p.put(0, nil)
		p.put(uint64(count)*api.Page+1, nil)
		for i, at := range near(count) {
			for _, n := range near(count) {
				// Only bytes that there are can be passed.
				if n < 4*api.Page {
					b := make([]byte, n)
					for k := range b {
						b[k] = byte(5*k + i)
					}
					p.put(at, b)
				}
			}
		}
	}
}

// Between two memories of which either may be the greater one.
func TestCopyBetween(t *testing.T) {
	for _, counts := range [][2]int{{0, 0}, {0, 1}, {1, 0}, {1, 1}, {1, 2}, {2, 1}} {
		to, from := begin(t, counts[0], 3), begin(t, counts[1], 3)
		from.put(0, bytes.Repeat([]byte("another"), counts[1]*api.Page/7))
		for _, at := range few(counts[0]) {
			for _, src := range few(counts[1]) {
				for _, n := range few(min(counts[0], counts[1])) {
					to.take(at, from, src, n)
				}
			}
		}
	}
}

// few are some of near.
func few(pages int) []uint64 {
	end := uint64(pages) * api.Page
	l := []uint64{0, 1, 3, end + 1, end + 2, 1 << 32, 1 << 63, math.MaxUint64 - end, -end, math.MaxUint64 - 1, math.MaxUint64}
	if end > 0 {
		l = append(l, end/2, end-3, end-1, end)
	}
	return l
}

// Within one memory, wherever the two parts lie to each other.
func TestCopyWithin(t *testing.T) {
	p := begin(t, 1, 1)
	for _, base := range []uint64{0, 500, 1014} {
		for at := range uint64(11) {
			for src := range uint64(11) {
				for n := range uint64(12) {
					p.take(base+at, p, base+src, n)
				}
				p.store(base, 8, 0x0807060504030201*(at+3)+src)
			}
		}
	}
	for _, at := range few(1) {
		for _, src := range few(1) {
			for _, n := range few(1) {
				p.take(at, p, src, n)
			}
		}
		p = begin(t, 1, 1)
	}
}

func TestCopyOverlaps(t *testing.T) {
	for _, r := range []struct {
		at, src, n uint64
		want       string
	}{
		{1, 0, 8, "aabcdefgh-"}, {3, 0, 6, "abcabcdef-"}, {0, 1, 8, "bcdefgh---"}, {0, 3, 6, "defgh-gh--"}, {2, 2, 6, "abcdefgh--"},
	} {
		m := pages.New(1, 1)
		m.Put(0, []byte("abcdefgh--"))
		ok := pages.Copy(m, r.at, m, r.src, r.n)
		if got := string(m.Bytes()[:10]); !ok || got != r.want {
			t.Errorf("P12.1: Copy of %d bytes to %d from %d of the same: %v, %q, want %q", r.n, r.at, r.src, ok, got, r.want)
		}
	}
}

func TestCopyWithoutMemory(t *testing.T) {
	p := begin(t, 1, 1)
	for _, n := range []uint64{0, 1, 1024, 1025, math.MaxUint64} {
		for _, at := range []uint64{0, 1024, math.MaxUint64} {
			p.answers(pages.Copy(nil, at, p.m, 0, n), false, "Copy to nil", at, 0, n)
			p.answers(pages.Copy(p.m, 0, nil, at, n), false, "Copy from nil", 0, at, n)
			p.answers(pages.Copy(nil, at, nil, at, n), false, "Copy of nil", at, at, n)
		}
	}
}

// A memory shares nothing with what was put into it, with what it answers, or with another memory.
func TestSharesNothing(t *testing.T) {
	p, q := begin(t, 1, 3), begin(t, 1, 3)
	for _, n := range []int{1, 13, 1024} {
		b := bytes.Repeat([]byte{0x33}, n)
		p.s.put(0, b)
		p.answers(p.m.Put(0, b), true, "Put of bytes", 0, uint64(n))
		clear(b)
		p.same("changing what was put")
	}
	for _, m := range []*pages.Memory{p.m, p.m, pages.New(0, 2)} {
		b := m.Bytes()
		for i := range b[:cap(b)] {
			b[:cap(b)][i] ^= 0xff
		}
		p.same("changing Bytes")
	}
	was := p.m.Bytes()
	want := bytes.Clone(was)
	p.fill(0, 0xee, 1024)
	p.grow(1)
	p.fill(1024, 0xdd, 1024)
	if !bytes.Equal(was, want) {
		t.Error("R2: Bytes have changed with the memory")
	}
	q.same("changing another memory")
	q.take(0, p, 0, 1024)
	p.fill(0, 0x11, 1024)
	q.same("changing what was copied")
}

// Spare capacity that Bytes has isn't to show up in pages that grow.
func TestGrownPagesAreZeros(t *testing.T) {
	p := begin(t, 1, api.MaxPages)
	for n := 0; p.s.pages()+n <= 90; n++ {
		b := p.m.Bytes()
		for i := range b[:cap(b)] {
			b[:cap(b)][i] = 0xff
		}
		p.grow(n)
		p.fill(0, 0xff, uint64(len(p.s.bytes)))
	}
}

// Many calls after each other, on two memories, against their second ones.
func TestManyCalls(t *testing.T) {
	l := []pair{begin(t, 1, 4), begin(t, 0, 3)}
	state := uint64(12)
	next := func(n uint64) uint64 {
		state = state*6364136223846793005 + 1442695040888963407
		return state >> 33 % n
	}
	place := func(p pair) uint64 {
		if next(20) == 0 {
			return -next(2000)
		}
		return next(uint64(len(p.s.bytes)) + 20)
	}
	for range 20000 {
		p, q := l[next(2)], l[next(2)]
		n := 1 << next(5)
		switch next(60) {
		case 0:
			p.grow(int(next(4)) - 1)
		case 1, 2, 3, 4, 5, 6, 7, 8, 9:
			p.fill(place(p), byte(next(256)), next(300))
		case 10, 11, 12, 13, 14, 15, 16, 17:
			p.put(place(p), q.m.Bytes()[:next(uint64(len(q.s.bytes)+1))])
		case 18, 19, 20, 21, 22, 23, 24, 25:
			p.take(place(p), q, place(q), next(700))
		case 26, 27, 28, 29, 30, 31, 32, 33, 34, 35:
			p.store(place(p), n, state)
		default:
			p.load(place(p), n)
		}
	}
}
