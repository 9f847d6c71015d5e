package machine_test

import (
	"bytes"
	"fmt"
	"math"
	"slices"
	"strconv"
	"testing"

	"plainsong/api"
	"plainsong/host"
	"plainsong/ops"
)

// Each load takes the bytes 0x81 to 0x88 at 8 and on, by an address and an offset.
func TestLoads(t *testing.T) {
	for name, want := range map[string]uint64{
		"28": 0x84838281, "29": 0x8887868584838281, "2b": 0x8887868584838281,
		"2c": 0xffffff81, "2d": 0x81, "2e": 0xffff8281, "2f": 0x8281,
		"30": 0xffffffffffffff81, "31": 0x81, "32": 0xffffffffffff8281, "33": 0x8281, "34": 0xffffffff84838281, "35": 0x84838281,
	} {
		size, kind, _, _ := ops.Access(code(name)[0].Op)
		m := base(">", "w:3 "+name+":2,5 end")
		m.Types[7].Results = []int{kind}
		m.Datas[2] = api.Data{Active: true, Mem: 2, At: 8, Bytes: []byte{0x81, 0x82, 0x83, 0x84, 0x85, 0x86, 0x87, 0x88}}
		if got, fuel := call(t, runs(t, m), 3); got != strconv.FormatUint(want, 10) || fuel != 2 {
			t.Errorf("P14.3: the load %s: %s, fuel %d, want %d, 2", name, got, fuel, want)
		}
		m.Datas[2].Bytes = []byte{1, 2, 3, 4, 5, 6, 7, 8}
		want = 0x0807060504030201 & (math.MaxUint64 >> (64 - 8*size))
		if got, _ := call(t, runs(t, m), 3); got != strconv.FormatUint(want, 10) {
			t.Errorf("P14.3: the load %s of bytes without a sign: %s, want %d", name, got, want)
		}
	}
}

// Each store writes the lowest bytes of its value, and no others.
func TestStores(t *testing.T) {
	for name, constant := range map[string]string{
		"36": "w:0x84838281", "37": "l:0x1122334455667788", "39": "f:-1.2345", "3a": "w:0x84838281", "3b": "w:0x84838281",
		"3c": "l:0x1122334455667788", "3d": "l:0x1122334455667788", "3e": "l:0x1122334455667788",
	} {
		size, _, _, _ := ops.Access(code(name)[0].Op)
		v := runs(t, base(">", "w:3 "+constant+" "+name+":2,5 end"))
		v.Memory(2).Fill(0, 0xee, 2048)
		want := bytes.Repeat([]byte{0xee}, 2048)
		for k := range size {
			want[8+k] = byte(code(constant)[0].N >> (8 * k))
		}
		if got, fuel := call(t, v, 3); got != "" || fuel != 3 || !bytes.Equal(v.Memory(2).Bytes(), want) {
			t.Errorf("P14.3: the store %s of %s: %s, fuel %d, % x", name, constant, got, fuel, v.Memory(2).Bytes()[:20])
		}
	}
}

// Addresses are unsigned, and their sums with offsets don't overflow.
func TestBordersOfLoadsAndStores(t *testing.T) {
	for op := 0x28; op <= 0x3e; op++ {
		size, kind, _, is := ops.Access(op)
		if !is {
			continue
		}
		last := 1024 - size
		for _, c := range []struct {
			at, offset int
			in         bool
		}{
			{0, 0, true}, {last, 0, true}, {0, last, true}, {last - 5, 5, true}, {last + 1, 0, false}, {0, last + 1, false}, {last - 4, 5, false},
			{1024, 0, false}, {0, 1024, false}, {-1, 0, false}, {-1, 1, false}, {1, math.MaxUint32, false}, {-1, math.MaxUint32, false}, {-8, 8, false}, {1 << 31, 1 << 31, false},
		} {
			constant, behind := "", " drop end"
			if op >= 0x36 {
				constant, behind = map[int]string{api.I32: "w:-1", api.I64: "l:-1", api.F64: "f:-1"}[kind], " end"
			}
			body := fmt.Sprintf("w:%d %s %x:0,%d%s", c.at, constant, op, c.offset, behind)
			v := runs(t, base(">", body))
			was := v.Memory(0).Bytes()
			got, _ := call(t, v, 3)
			if c.in != (got == "") || !c.in && got != "Bounds" {
				t.Errorf("P14.3: %s: %s", body, got)
			}
			if same := bytes.Equal(v.Memory(0).Bytes(), was); same == (c.in && op >= 0x36) {
				t.Errorf("P14.3: %s: the memory is the same: %v", body, same)
			}
		}
	}
}

func TestSizeAndGrow(t *testing.T) {
	holds(t, []row{
		{">www", "size:0 size:1 size:2 end", nil, "1 0 2", 3},
		{">wwww", "w:2 grow:0 w:1 grow:1 size:0 size:1 end", nil, "1 0 3 1", 6},
		{">ww", "w:3 grow:0 size:0 end", nil, "4294967295 1", 3},
		{">ww", "w:0 grow:2 w:1 grow:2 end", nil, "2 4294967295", 4},
		{">w", "w:0x7fffffff grow:0 end", nil, "4294967295", 2},
		{">w", "w:0x80000000 grow:0 end", nil, "4294967295", 2},
		{">w", "w:0xffffffff grow:0 end", nil, "4294967295", 2},
		{">w", "w:1020 wload:0,1 end", nil, "Bounds", 2},
		{">ww", "w:1 grow:0 w:1020 wload:0,1 end", nil, "1 0", 4},
	})
	v := asking(t, base("w>w", "get:0 grow:1 end"), host.New(), 4)
	for _, want := range []string{"0", "4294967295"} {
		if got, _ := call(t, v, 3, 1); got != want {
			t.Errorf("P14.3: 0x40 with the budget 4: %s, want %s", got, want)
		}
	}
	if v.Pages() != 4 {
		t.Errorf("P14.3: 0x40 with the budget 4: %d pages", v.Pages())
	}
}

// bulk is the three operands of an instruction for many bytes, from the bottom up, and whether all bytes exist.
type bulk struct {
	a, b, c int64
	in      bool
}

// moves does the instruction with each of these operands; where not all bytes exist it does nothing, and otherwise what effect does to copies of the memories.
func moves(t *testing.T, instruction string, effect func(mems [][]byte, a, b, c int64), l []bulk) {
	t.Helper()
	for _, c := range l {
		m := base("www>", "get:0 get:1 get:2 "+instruction+" end")
		m.Datas[2] = api.Data{Bytes: []byte{4}}
		v := runs(t, m)
		var mems [][]byte
		for k := range 3 {
			for at := range v.Memory(k).Bytes() {
				v.Memory(k).Store(uint64(at), 1, uint64(at+at/200+3*k+1))
			}
			mems = append(mems, v.Memory(k).Bytes())
		}
		want := "Bounds"
		if c.in {
			want = ""
			effect(mems, c.a, c.b, c.c)
		}
		if got, fuel := call(t, v, 3, uint64(c.a), uint64(c.b), uint64(c.c)); got != want || fuel != 4 {
			t.Errorf("P14.3: %s of %d, %d, %d: %s, fuel %d, want %s, 4", instruction, c.a, c.b, c.c, got, fuel, want)
		}
		for k, b := range mems {
			if !bytes.Equal(v.Memory(k).Bytes(), b) {
				t.Errorf("P14.3: %s of %d, %d, %d: memory %d is not as it should be", instruction, c.a, c.b, c.c, k)
			}
		}
	}
}

func TestFill(t *testing.T) {
	moves(t, "fill:0", func(mems [][]byte, a, b, c int64) {
		for i := range c {
			mems[0][a+i] = byte(b)
		}
	}, []bulk{
		{5, 0x1234, 10, true}, {0, 255, 1024, true}, {1023, -1, 1, true}, {1024, 1, 0, true}, {0, 1, 0, true},
		{1025, 1, 0, false}, {1024, 1, 1, false}, {0, 1, 1025, false}, {5, 1, 1020, false}, {-1, 1, 0, false}, {-1, 1, 2, false}, {5, 1, -1, false}, {5, 1, -5, false},
	})
	moves(t, "fill:2", func(mems [][]byte, a, b, c int64) { mems[2][2047] = 6 }, []bulk{{2047, 6, 1, true}, {2047, 6, 2, false}})
	moves(t, "fill:1", func([][]byte, int64, int64, int64) {}, []bulk{{0, 6, 0, true}, {0, 6, 1, false}, {1, 6, 0, false}})
}

func TestCopy(t *testing.T) {
	copies := func(to, from int) func([][]byte, int64, int64, int64) {
		return func(mems [][]byte, a, b, c int64) {
			copy(mems[to][a:], slices.Clone(mems[from][b:b+c]))
		}
	}
	moves(t, "copy:0,2", copies(0, 2), []bulk{
		{5, 7, 10, true}, {0, 1024, 1024, true}, {1, 2047, 1, true}, {1024, 2048, 0, true}, {0, 2048, 0, true},
		{1025, 0, 0, false}, {0, 2049, 0, false}, {0, 0, 1025, false}, {0, 2000, 49, false}, {1000, 0, 25, false},
		{-1, 0, 1, false}, {0, -1, 1, false}, {0, 0, -1, false}, {8, 8, -8, false},
	})
	moves(t, "copy:2,0", copies(2, 0), []bulk{{2000, 0, 48, true}, {1024, 0, 1024, true}, {2048, 1024, 0, true}, {2000, 0, 49, false}, {0, 0, 1025, false}})
	moves(t, "copy:0,0", copies(0, 0), []bulk{{5, 7, 100, true}, {7, 5, 100, true}, {5, 5, 100, true}, {0, 1, 1023, true}, {1, 0, 1023, true}, {1, 0, 1024, false}})
	moves(t, "copy:1,1", copies(1, 1), []bulk{{0, 0, 0, true}, {1, 0, 0, false}, {0, 1, 0, false}, {0, 0, 1, false}})
}

func TestInit(t *testing.T) {
	held := []byte{5, 6, 7, 8, 9}
	moves(t, "init:0,1", func(mems [][]byte, a, b, c int64) { copy(mems[0][a:], held[b:b+c]) }, []bulk{
		{9, 1, 3, true}, {9, 0, 5, true}, {3, 4, 1, true}, {1019, 0, 5, true}, {1024, 5, 0, true}, {0, 5, 0, true},
		{1020, 0, 5, false}, {0, 0, 6, false}, {0, 1, 5, false}, {0, 6, 0, false}, {1025, 0, 0, false},
		{0, -1, 0, false}, {0, -1, 1, false}, {0, 1, -1, false}, {-1, 0, 1, false}, {0, 5, -5, false},
	})
	moves(t, "init:2,2", func(mems [][]byte, a, b, c int64) { mems[2][a] = 4 }, []bulk{{2047, 0, 1, true}, {2048, 0, 1, false}, {7, 0, 2, false}})
	nothing := func([][]byte, int64, int64, int64) {}
	moves(t, "init:0,0", nothing, []bulk{{0, 0, 0, true}, {1024, 0, 0, true}, {0, 0, 1, false}, {0, 1, 0, false}, {1025, 0, 0, false}})
}

// A Data that is dropped has no Bytes, and drops again.
func TestDroppedDatas(t *testing.T) {
	v := runs(t, and(base("www>", "get:0 get:1 get:2 init:0,1 end"), ">", "ddrop:1 ddrop:0 ddrop:1 end"))
	for _, c := range []struct {
		f    int
		args []uint64
		want string
		fuel int64
	}{
		{3, u(0, 0, 5), "", 4}, {3, u(0, 6, 0), "Bounds", 4}, {4, nil, "", 3}, {3, u(0, 0, 5), "Bounds", 4}, {3, u(0, 0, 1), "Bounds", 4},
		{3, u(0, 0, 0), "", 4}, {3, u(0, 1, 0), "Bounds", 4}, {3, u(1025, 0, 0), "Bounds", 4}, {4, nil, "", 3}, {3, u(0, 0, 1), "Bounds", 4},
	} {
		if got, fuel := call(t, v, c.f, c.args...); got != c.want || fuel != c.fuel {
			t.Errorf("P14.3: 0xfc08 and 0xfc09: Call of %d with %v: %s, fuel %d, want %s, %d", c.f, c.args, got, fuel, c.want, c.fuel)
		}
	}
	if got := bytesOf(v, 0, 0, 13); got != "5 6 7 8 9 0 0 0 1 2 3 4 0" {
		t.Errorf("P14.3: 0xfc08 has written %s", got)
	}
	other := runs(t, base("www>", "get:0 get:1 get:2 init:0,1 end"))
	if got, _ := call(t, other, 3, 0, 0, 5); got != "" {
		t.Errorf("P14.3: 0xfc08 in another machine: %s", got)
	}
}
