package read_test

import (
	"bytes"
	"reflect"
	"slices"
	"strings"
	"testing"

	"plainsong/api"
	"plainsong/leb"
	"plainsong/module"
	"plainsong/read"
)

// sameVerdict holds Module against the second reader.
func sameVerdict(t *testing.T, b []byte) {
	t.Helper()
	want, is := again(b)
	m, at, why := read.Module(b)
	switch {
	case is && (why != api.OK || at != len(b) || !module.Same(m, want)):
		t.Fatalf("P9.1: Module(% x): at %d, %d, %+v, want %+v", b, at, why, m, want)
	case !is && (why != api.ErrForm || at < 0 || at > len(b) || !reflect.DeepEqual(m, api.Module{})):
		t.Fatalf("P9.1: Module(% x): at %d, %d, %+v, want ErrForm", b, at, why, m)
	}
}

// Encodings of which one byte is another, is missing or is too many, and those that are cut off.
func TestOneByte(t *testing.T) {
	w := loose{newMaker(6)}
	l := [][]byte{encoded(t, whole()), w.encode(whole()), w.encode(whole())}
	for len(l) < 6 {
		if b := w.encode(w.module()); len(b) < 300 {
			l = append(l, b)
		}
	}
	for _, b := range l {
		sameAgain(t, b)
		for at := range b {
			sameVerdict(t, b[:at])
			sameVerdict(t, slices.Delete(slices.Clone(b), at, at+1))
			for v := range 256 {
				c := slices.Clone(b)
				c[at] = byte(v)
				sameVerdict(t, c)
				if v%16 == 0 || v%16 == 15 {
					sameVerdict(t, slices.Insert(slices.Clone(b), at, byte(v)))
				}
			}
		}
	}
}

// Encodings that are changed at several places.
func TestSeveralBytes(t *testing.T) {
	w := loose{newMaker(7)}
	for range 25000 {
		b := w.encode(whole())
		for range 1 + w.Intn(3) {
			at, to := 8+w.Intn(len(b)-8), 8+w.Intn(len(b)-8)
			switch w.Intn(4) {
			case 0:
				b[at] = byte(w.Intn(256))
			case 1:
				b[at] += byte(1 - w.Intn(3))
			case 2:
				b[at], b[to] = b[to], b[at]
			case 3:
				b[at] ^= 1 << w.Intn(8)
			}
		}
		sameVerdict(t, b)
	}
}

// some returns bytes of which many mean something.
func (w loose) some(most int) []byte {
	often := []byte{0, 0, 0, 0, 1, 1, 1, 2, 3, 4, 5, 0x0b, 0x0b, 0x0b, 0x0e, 0x20, 0x28, 0x40, 0x41, 0x42, 0x44, 0x60, 0x60, 0x7c, 0x7e, 0x7f, 0x7f, 0x80, 0x80, 0x81, 0xfc, 0xff}
	b := make([]byte, w.Intn(most+1))
	for i := range b {
		if b[i] = often[w.Intn(len(often))]; w.Intn(8) == 0 {
			b[i] = byte(w.Intn(256))
		}
	}
	return b
}

// Sections whose content is made by chance; their lengths are right.
func TestSomeContent(t *testing.T) {
	w := loose{newMaker(8)}
	accepts := map[byte]int{}
	for range 20000 {
		for _, id := range []byte{0, 1, 2, 3, 5, 6, 7, 12, 10, 11} {
			content := w.some(12)
			if id != 0 && id != 12 && w.Intn(4) > 0 {
				content = slices.Concat([]byte{1}, content)
			}
			b := encoding([]byte{id}, w.sized(content))
			sameVerdict(t, b)
			if _, is := again(b); is {
				accepts[id]++
			}
		}
		b := encoding([]byte{3, 2, 1, 0, 12, 1, 0, 10}, w.sized(slices.Concat([]byte{1}, w.sized(slices.Concat([]byte{0}, w.some(12), []byte{0x0b})))))
		sameVerdict(t, b)
		if _, is := again(b); is {
			accepts[255]++
		}
	}
	if len(accepts) < 11 {
		t.Errorf("sections whose content is made by chance are accepted too seldom: %v", accepts)
	}
}

// Whatever module.Right or match.Of refuses is refused.
func TestWrongModules(t *testing.T) {
	w := loose{newMaker(9)}
	for i, change := range []func(m *api.Module){
		func(m *api.Module) { m.Types[1].Params = make([]int, 2) },
		func(m *api.Module) { m.Types[0].Results = []int{0x40} },
		func(m *api.Module) { m.Imports[1].Name = "\xff" },
		func(m *api.Module) { m.Imports[0].Module = strings.Repeat("a", 65) },
		func(m *api.Module) { m.Imports[1].Type = 1 << 31 },
		func(m *api.Module) { m.Funcs[1].Type = 1<<32 - 1 },
		func(m *api.Module) { m.Funcs[0].Locals[1] = 0 },
		func(m *api.Module) { m.Funcs[0].Code[0].Op = 0x2a },
		func(m *api.Module) { m.Funcs[1].Code[0].L[0] = 65 },
		func(m *api.Module) { m.Funcs[1].Code[1].B = 16 },
		func(m *api.Module) { m.Funcs[1].Code[2].A = 4 },
		func(m *api.Module) { m.Funcs[2].Code[0].A = 64 },
		func(m *api.Module) { m.Funcs[2].Code[0].Op = 0x02 },
		func(m *api.Module) { m.Funcs[0].Code[2].Op = 0x01 },
		func(m *api.Module) { m.Funcs[0].Code = nil },
		func(m *api.Module) { m.Mems[0].Max = 513 },
		func(m *api.Module) { m.Mems[0].Min = 3 },
		func(m *api.Module) { m.Globals[0].Type = 0x7d },
		func(m *api.Module) { m.Exports[0].Kind = 1 },
		func(m *api.Module) { m.Exports[0].Name = "b" },
		func(m *api.Module) { m.Exports[2].Index = 1 << 31 },
		func(m *api.Module) { m.Datas[0].At = 1 << 31 },
		func(m *api.Module) { m.Datas[0].Mem = 4 },
		func(m *api.Module) { m.Customs[2].Name = "\xed\xa0\x80" },
	} {
		for range 20 {
			m := whole()
			change(&m)
			b := w.encode(m)
			if _, is := again(b); is {
				t.Errorf("change %d makes no wrong module", i)
			}
			refused(t, b, "a wrong module")
		}
	}
}

// Long encodings that say they have far more than they have, or have far more than a module may.
func TestFarTooMany(t *testing.T) {
	const room = 1<<20 - 100
	fill := func(s string) []byte {
		one := coded(t, s)
		return bytes.Repeat(one, room/len(one))
	}
	section := func(id byte, content ...[]byte) []byte {
		c := slices.Concat(content...)
		return slices.Concat([]byte{id}, leb.U(uint64(len(c))), c)
	}
	body := func(b []byte) []byte { return slices.Concat([]byte{1}, leb.U(uint64(len(b))), b) }
	function := []byte{3, 2, 1, 0}
	count := leb.U(1<<32 - 1)
	for id, s := range map[byte]string{1: "60 00 00", 2: "00 00 00 00", 3: "00", 5: "00 00", 6: "7f 00 41 00 0b", 7: "00 00 00", 10: "02 00 0b", 11: "01 00"} {
		one := fill(s)
		refused(t, encoding(section(id, count, one)), "a list that is shorter than it says")
		refused(t, encoding(section(id, leb.U(uint64(room/len(coded(t, s)))), one)), "a list that is far too long")
	}
	refused(t, encoding(fill("00 01 00")), "far too many customs")
	refused(t, encoding(function, section(10, body(slices.Concat([]byte{0}, fill("01"), []byte{0x0b})))), "far too many instructions")
	refused(t, encoding(function, section(10, body(slices.Concat([]byte{0}, fill("02 40")[:room/3*2], fill("0b")[:room/3+1])))), "far too many blocks")
	refused(t, encoding(function, section(10, body(slices.Concat([]byte{0, 0x0e}, count, fill("00"))))), "far too many labels")
	refused(t, encoding(function, section(10, body(slices.Concat(count, fill("00 7f"))))), "fewer runs than it says")
	refused(t, encoding(function, section(10, body(slices.Concat(leb.U(room/6), fill("ff ff ff ff 0f 7f"), []byte{0x0b})))), "far too many locals")
	holds(t, encoding(function, section(10, body(slices.Concat(leb.U(room/2), fill("00 7f"), []byte{0x0b})))), api.Module{Funcs: []api.Func{{Code: end()}}}, "very many empty runs")
}

// What lies behind the bytes is not read, even if it would complete them.
func TestSpareCapacity(t *testing.T) {
	b := encoded(t, whole())
	sections := []int{len(b)}
	for at := 8; at < len(b); {
		sections = append(sections, at)
		n, end, _ := leb.ReadU(b, at+1, 32)
		at = end + int(n)
	}
	for at := range b {
		was := slices.Clone(b)
		part := b[:at]
		want, wantAt, wantWhy := read.Module(slices.Clone(part))
		m, stop, why := read.Module(part)
		if why != wantWhy || stop != wantAt || !module.Same(m, want) {
			t.Errorf("R5: Module of the first %d bytes: at %d, %d, want %d, %d", at, stop, why, wantAt, wantWhy)
		}
		if !slices.Contains(sections, at) && why != api.ErrForm {
			t.Errorf("P9.1: Module of the first %d bytes: %d, want ErrForm", at, why)
		}
		if !bytes.Equal(b, was) {
			t.Fatalf("R2: Module of the first %d bytes changes them, or those behind", at)
		}
	}
}

// What is returned is new memory, up to the spare capacity of its lists.
func TestNewMemory(t *testing.T) {
	b := encoded(t, whole())
	first, second := accepted(t, b, "a whole module"), accepted(t, b, "a whole module")
	type stretch struct{ from, to uintptr }
	var taken []stretch
	for _, p := range []any{&b, &first, &second} {
		lists(reflect.ValueOf(p), func(v reflect.Value) {
			s := stretch{v.Pointer(), v.Pointer() + uintptr(v.Cap())*v.Type().Elem().Size()}
			for _, other := range taken {
				if s.from < other.to && other.from < s.to {
					t.Errorf("R2: a list of %d elements shares memory with another one", v.Len())
				}
			}
			taken = append(taken, s)
		})
	}
	clear(b)
	if !module.Same(first, whole()) || !module.Same(second, whole()) {
		t.Error("R2: what Module returns shares memory with its argument")
	}
}
