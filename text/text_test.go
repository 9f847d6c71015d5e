package text_test

import (
	"bytes"
	"slices"
	"strconv"
	"strings"
	"testing"
	"unicode/utf8"

	"plainsong/text"
)

// edges are bytes on both sides of each border that a byte of a character can have.
const edges = "\x00\x41\x7f\x80\x81\x8f\x90\x9f\xa0\xbf\xc0\xc1\xc2\xdf\xe0\xe1\xec\xed\xee\xef\xf0\xf1\xf3\xf4\xf5\xf7\xf8\xfb\xfc\xfd\xfe\xff"

// hold holds Right and Count against how many characters b has, -1 if it isn't valid.
func hold(t *testing.T, b []byte, want int) {
	t.Helper()
	if got := text.Right(b); got != (want >= 0) {
		t.Errorf("P5.1: Right(% x): %v", b, got)
	}
	if got := text.Count(b); got != want {
		t.Errorf("P5.1: Count(% x): %d, want %d", b, got, want)
	}
}

// count reckons by the library's decoder.
func count(b []byte) int {
	if !utf8.Valid(b) {
		return -1
	}
	return utf8.RuneCount(b)
}

// encode writes c in so many bytes, be it right or not: from two on, each byte but the first takes six bits.
func encode(c, size int) []byte {
	if size == 1 {
		return []byte{byte(c)}
	}
	b := make([]byte, size)
	for i := size - 1; i > 0; i-- {
		b[i] = 0x80 | byte(c&0x3f)
		c >>= 6
	}
	b[0] = byte(0xff<<(8-size)) | byte(c)
	return b
}

// shortest tells how many bytes c needs, by what each length has room for: 7 bits, then 11, 16, 21, 26, 31.
func shortest(c int) int {
	for i, room := range []int{7, 11, 16, 21, 26, 31} {
		if c < 1<<room {
			return i + 1
		}
	}
	return 7
}

// first is the chapter's Fresh once more, by trying one name after the other.
func first(taken []string, want string) string {
	name := want
	for n := 1; slices.Contains(taken, name); n++ {
		name = want + strconv.Itoa(n)
	}
	return name
}

func TestExamples(t *testing.T) {
	hold(t, []byte{0xc0, 0x80}, -1)
	hold(t, []byte{}, 0)
	hold(t, nil, 0)
	if s := text.Fresh([]string{"a"}, "a"); s != "a1" {
		t.Errorf("P5.1: Fresh(a, a): %q", s)
	}
}

func TestKnownTexts(t *testing.T) {
	for _, r := range []struct {
		b string
		n int
	}{
		{"a", 1}, {"plainsong", 9}, {"\x00", 1}, {"\x7f", 1}, {"é", 1}, {"naïve", 5}, {"ασδ", 3}, {"日本語", 3}, {"a€b😀c", 5}, {"e\u0301", 2}, {"\ufeffa", 2},
		{"\uffff", 1}, {"\ufdd0", 1}, {"\ufffd", 1}, {"\U0001ffff", 1}, {"\U0010ffff", 1}, {"\u07ff\u0800\ud7ff\ue000\U00010000", 5},
		{"\x80", -1}, {"\xff", -1}, {"a\x80", -1}, {"a\xc3", -1}, {"\xc3a", -1}, {"\xe2\x82", -1}, {"\xe2\x82a", -1}, {"\xf0\x9f\x98", -1}, {"é\x80", -1}, {"\xc1\xbf", -1},
		{"\xe0\x9f\xbf", -1}, {"\xe0\x80\x80", -1}, {"\xf0\x8f\xbf\xbf", -1}, {"\xf0\x80\x80\x80", -1},
		{"\xed\xa0\x80", -1}, {"\xed\xbf\xbf", -1}, {"\xed\xa0\xbd\xed\xb8\x80", -1}, {"\xf4\x90\x80\x80", -1}, {"\xf8\x88\x80\x80\x80", -1}, {"\xfc\x84\x80\x80\x80\x80", -1},
	} {
		hold(t, []byte(r.b), r.n)
	}
}

// Each number in each length: valid just in the shortest one, if it is a character at all.
func TestEveryCharacter(t *testing.T) {
	for c := range 1 << 21 {
		for size := shortest(c); size <= 4; size++ {
			want := -1
			if size == shortest(c) && (c < 0xd800 || c > 0xdfff) && c <= 0x10ffff {
				want = 1
			}
			hold(t, encode(c, size), want)
		}
		if t.Failed() {
			break
		}
	}
	for _, c := range []int{0, 0x41, 0x7f, 0x80, 0x7ff, 0x800, 0xffff, 0x10000, 0x10ffff, 0x110000, 1<<21 - 1, 1 << 21, 1<<26 - 1, 1 << 26, 1<<31 - 1} {
		for size := max(5, shortest(c)); size <= 6; size++ {
			hold(t, encode(c, size), -1)
		}
	}
}

// All texts of up to four bytes that lie at an edge, and every one of two bytes.
func TestShortTexts(t *testing.T) {
	all := [][]byte{{}}
	for range 4 {
		var longer [][]byte
		for _, b := range all {
			for _, v := range []byte(edges) {
				longer = append(longer, append(bytes.Clone(b), v))
			}
		}
		for _, b := range longer {
			hold(t, b, count(b))
		}
		all = longer
	}
	for v := range 0x10000 {
		b := []byte{byte(v >> 8), byte(v)}
		hold(t, b, count(b))
	}
}

// What is wrong with a text may stand at any place of it, and it may end at any place.
func TestLongTexts(t *testing.T) {
	long := []byte(strings.Repeat("aé€😀", 30))
	for at := range len(long) + 1 {
		hold(t, long[:at:at], count(long[:at]))
		// What lies behind the slice's end would end the character, were it read.
		hold(t, long[:at], count(long[:at]))
		for _, v := range []byte(edges) {
			b := slices.Insert(bytes.Clone(long), at, v)
			hold(t, b, count(b))
		}
	}
	big := bytes.Repeat([]byte("€"), 1<<18)
	hold(t, big, 1<<18)
	hold(t, append(big, 0xe2), -1)
}

func TestTextsStayAsTheyWere(t *testing.T) {
	for _, s := range []string{"", "aé€😀", "a\xc3", "\xed\xa0\x80"} {
		b := append([]byte(s), 0x80, 0xff)[:len(s)]
		text.Right(b)
		text.Count(b)
		if string(b[:len(s)+2]) != s+"\x80\xff" {
			t.Errorf("R2: reading %q has changed it: % x", s, b[:len(s)+2])
		}
	}
}

func TestFreshNames(t *testing.T) {
	for _, r := range []struct {
		taken      []string
		want, name string
	}{
		{nil, "a", "a"}, {nil, "", ""}, {[]string{}, "a", "a"}, {[]string{""}, "", "1"}, {[]string{"", "1", "3"}, "", "2"}, {[]string{""}, "a", "a"},
		{[]string{"b"}, "a", "a"}, {[]string{"a1"}, "a", "a"}, {[]string{"aa"}, "a", "a"}, {[]string{"A"}, "a", "a"},
		{[]string{"a", "a1"}, "a", "a2"}, {[]string{"a2", "a"}, "a", "a1"}, {[]string{"a3", "a1", "a", "a2"}, "a", "a4"}, {[]string{"a", "a1", "a3"}, "a", "a2"},
		{[]string{"a", "a", "a"}, "a", "a1"}, {[]string{"a", "a1", "a1", "a1"}, "a", "a2"},
		{[]string{"a1"}, "a1", "a11"}, {[]string{"a1", "a11", "a12"}, "a1", "a13"}, {[]string{"a", "a11"}, "a", "a1"}, {[]string{"9"}, "9", "91"},
		{[]string{"é", "é1"}, "é", "é2"}, {[]string{"\xff"}, "\xff", "\xff1"}, {[]string{"\xff", "\xfe1"}, "\xff", "\xff1"}, {[]string{"é", "e\u03011"}, "é", "é1"},
		// Near to a1, and none of them is it.
		{[]string{"a", "a01", "a+1", "a-1", "a0", "a00", "a 1", "a1 ", "a1a", "a1\x00", "aa1", "a1.", "a0x1", "a1_", "a١", "a１", "b1", "1"}, "a", "a1"},
		// Numbers that come to 1 when they are cut to fewer bits.
		{[]string{"a", "a257", "a65537", "a4294967297", "a18446744073709551617", "a340282366920938463463374607431768211457", "a-18446744073709551615"}, "a", "a1"},
		{[]string{"a", "a9223372036854775807", "a9223372036854775808", "a" + strings.Repeat("9", 4000), "a" + strings.Repeat("0", 4000) + "1"}, "a", "a1"},
	} {
		if name := text.Fresh(r.taken, r.want); name != r.name || name != first(r.taken, r.want) {
			t.Errorf("P5.1: Fresh(%q, %q): %q, want %q", r.taken, r.want, name, r.name)
		}
	}
}

// Every choice of some of the names around, in both directions.
func TestFreshAmongAllChoices(t *testing.T) {
	names := []string{"x", "x1", "x2", "x3", "x4", "x11", "x12", "x", "x01", "", "1", "x10"}
	for choice := range 1 << len(names) {
		var taken []string
		for i, name := range names {
			if choice>>i&1 == 1 {
				taken = append(taken, name)
			}
		}
		for range 2 {
			for _, want := range []string{"x", "x1", "", "y"} {
				if name := text.Fresh(taken, want); name != first(taken, want) {
					t.Errorf("P5.1: Fresh(%q, %q): %q", taken, want, name)
				}
			}
			slices.Reverse(taken)
		}
	}
}

func TestFreshPassesEachPower(t *testing.T) {
	taken := []string{"a"}
	for n := 1; n < 1200; n++ {
		name := "a" + strconv.Itoa(n)
		if got := text.Fresh(taken, "a"); got != name {
			t.Fatalf("P5.1: Fresh of a to a%d: %q", n-1, got)
		}
		taken = append(taken, name)
	}
	for n := len(taken); n < 300000; n++ {
		taken = append(taken, "a"+strconv.Itoa(n))
	}
	slices.Reverse(taken)
	if got := text.Fresh(taken, "a"); got != "a300000" {
		t.Errorf("P5.1: Fresh of a to a299999: %q", got)
	}
}

// Among enough names, a byte that is no digit could be taken for one of any value.
func TestFreshAmongLookAlikes(t *testing.T) {
	taken := []string{"a"}
	for c := range 256 {
		if c < '0' || c > '9' {
			tail := string([]byte{byte(c)})
			taken = append(taken, "a"+tail, "a1"+tail, "a"+tail+"1", "a0"+tail)
		}
	}
	for n := range 4000 {
		taken = append(taken, "a0"+strconv.Itoa(n), "b"+strconv.Itoa(n))
	}
	for n := 1; n < 600; n++ {
		name := "a" + strconv.Itoa(n)
		if got := text.Fresh(taken, "a"); got != name {
			t.Fatalf("P5.1: Fresh of a to a%d and of what looks like them: %q", n-1, got)
		}
		taken = append(taken, name)
	}
}

func TestTakenNamesStayAsTheyWere(t *testing.T) {
	was := []string{"a", "b", "a2", "a1", "a3"}
	taken := slices.Clone(was)
	// a1 lies in the spare capacity, so it isn't taken.
	if got := text.Fresh(taken[:3], "a"); got != "a1" {
		t.Errorf("R5: Fresh(%q, a): %q", taken[:3], got)
	}
	text.Fresh(taken[:2], "c")
	if !slices.Equal(taken, was) {
		t.Errorf("R2: Fresh has changed %q to %q", was, taken)
	}
	taken[0] = "z"
	if got := text.Fresh([]string{"a"}, "a"); got != "a1" {
		t.Errorf("R4: Fresh(a, a) after other calls: %q", got)
	}
}
