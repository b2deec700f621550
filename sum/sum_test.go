package sum_test

import (
	"encoding/binary"
	"hash/crc32"
	"math/bits"
	"math/rand"
	"slices"
	"strings"
	"testing"

	"seneschal/sum"
)

// checkOf reads the chapter plainly: a register of 32 ones, of each byte the lowest bit first.
func checkOf(s string) uint32 {
	register := uint32(0xffffffff)
	for i := range len(s) {
		for bit := range 8 {
			differ := uint32(s[i])>>bit&1 != register&1
			register >>= 1
			if differ {
				register ^= 0xedb88320
			}
		}
	}
	return 0xffffffff - register
}

// remainderOf reads the chapter's polynomial by its powers: the bytes' bits stand in the order in which they come, 32 zeros behind them, and the first 32 are turned; the remainder by long division is turned, too, and its first bit is the check's lowest.
func remainderOf(s string) uint32 {
	row := make([]bool, 8*len(s)+32)
	for i := range 8 * len(s) {
		row[i] = s[i/8]>>(i%8)&1 == 1
	}
	for i := range 32 {
		row[i] = !row[i]
	}
	for i := range 8 * len(s) {
		if !row[i] {
			continue
		}
		for _, power := range []int{0, 1, 2, 4, 5, 7, 8, 10, 11, 12, 16, 22, 23, 26, 32} {
			row[i+32-power] = !row[i+32-power]
		}
	}
	var check uint32
	for i, one := range row[8*len(s):] {
		if !one {
			check |= 1 << i
		}
	}
	return check
}

// check holds the answer against the two plain readings and the language's library.
func check(t *testing.T, s string) {
	t.Helper()
	n := sum.Of(s)
	if n2 := checkOf(s); n != n2 {
		t.Fatalf("Of(%x): %08x, wanted %08x", s, n, n2)
	}
	if n2 := remainderOf(s); n != n2 {
		t.Fatalf("Of(%x): %08x, the remainder is %08x", s, n, n2)
	}
	if n2 := crc32.ChecksumIEEE([]byte(s)); n != n2 {
		t.Fatalf("Of(%x): %08x, the library says %08x", s, n, n2)
	}
}

func chance(r *rand.Rand, n int) string {
	b := make([]byte, n)
	for i := range b {
		b[i] = byte(r.Intn(256))
	}
	return string(b)
}

// put answers s with the four bytes from at on changed by exclusive or with d.
func put(s string, at int, d uint32) string {
	b := []byte(s)
	for i := range 4 {
		b[at+i] ^= byte(d >> (8 * i))
	}
	return string(b)
}

// behind answers s and behind it its check, the lowest byte first.
func behind(s string) string {
	return string(binary.LittleEndian.AppendUint32([]byte(s), sum.Of(s)))
}

// P2.1

func TestExamples(t *testing.T) {
	if n := sum.Of(); n != 0 {
		t.Errorf("Of(): %08x", n)
	}
	if n := sum.Of("1234", "56789"); n != 0xcbf43926 {
		t.Errorf("Of of 1234 and 56789: %08x", n)
	}
}

func TestKnownTexts(t *testing.T) {
	for _, c := range []struct {
		s    string
		want uint32
	}{
		{"", 0},
		{"\x00", 0xd202ef8d},
		{"\xff", 0xff000000},
		{"a", 0xe8b7be43},
		{"abc", 0x352441c2},
		{"123456789", 0xcbf43926},
		{"\x00\x00\x00\x00", 0x2144df1c},
		{"\xff\xff\xff\xff", 0xffffffff},
		{"The quick brown fox jumps over the lazy dog", 0x414fa339},
		{strings.Repeat("\x00", 32), 0x190a55ad},
		{strings.Repeat("\xff", 32), 0xff6cab0b},
	} {
		if n := sum.Of(c.s); n != c.want {
			t.Errorf("Of(%x): %08x, wanted %08x", c.s, n, c.want)
		}
		check(t, c.s)
	}
}

func TestOfAllFewBytes(t *testing.T) {
	for n := range 1 << 16 {
		s := string([]byte{byte(n), byte(n >> 8)})
		check(t, s[:1])
		check(t, s)
	}
}

func TestOfManyBytes(t *testing.T) {
	r := rand.New(rand.NewSource(1))
	for n := range 300 {
		check(t, chance(r, n))
		check(t, strings.Repeat("\x00", n))
		check(t, strings.Repeat("\xff", n))
	}
	for _, n := range []int{1 << 12, 1<<16 + 1} {
		check(t, chance(r, n))
	}
}

// P2.2

func TestNoPartsAndEmptyParts(t *testing.T) {
	for _, parts := range [][]string{nil, {}, {""}, {"", ""}, {"", "", "", ""}, make([]string, 1000)} {
		if n := sum.Of(parts...); n != 0 {
			t.Errorf("Of of %d empty parts: %08x", len(parts), n)
		}
	}
	for _, parts := range [][]string{
		{"", "123456789"},
		{"123456789", ""},
		{"", "1234", "", "", "56789", ""},
		{"1", "", "23456", "", "78", "9"},
		strings.Split("123456789", ""),
	} {
		if n := sum.Of(parts...); n != 0xcbf43926 {
			t.Errorf("Of(%q): %08x", parts, n)
		}
	}
}

func TestHowBytesAreParted(t *testing.T) {
	r := rand.New(rand.NewSource(2))
	texts := []string{"\x00", "\xff", "\x00\x00", "\xff\xff", "\x00\xff\x00", strings.Repeat("\x00", 70), strings.Repeat("\xff", 70), "ä€😀", "\x80\xbf\xc3\xf0"}
	for n := range 60 {
		texts = append(texts, chance(r, n))
	}
	for _, s := range texts {
		want := checkOf(s)
		for i := range len(s) + 1 {
			if n := sum.Of(s[:i], s[i:]); n != want {
				t.Fatalf("Of(%x, %x): %08x, wanted %08x", s[:i], s[i:], n, want)
			}
			for j := i; j <= len(s); j++ {
				if n := sum.Of("", s[:i], s[i:j], "", s[j:]); n != want {
					t.Fatalf("Of(%x, %x, %x): %08x, wanted %08x", s[:i], s[i:j], s[j:], n, want)
				}
			}
		}
	}
}

func TestManyParts(t *testing.T) {
	r := rand.New(rand.NewSource(3))
	for range 300 {
		s := chance(r, r.Intn(600))
		var parts []string
		for rest := s; rest != ""; {
			n := min(r.Intn(20), len(rest))
			parts = append(parts, rest[:n])
			rest = rest[n:]
		}
		if n := sum.Of(parts...); n != checkOf(s) {
			t.Fatalf("Of(%x): %08x, wanted %08x", parts, n, checkOf(s))
		}
	}
}

func TestOrderOfPartsCounts(t *testing.T) {
	for _, c := range [][2]string{{"1234", "56789"}, {"\x00", "\xff"}, {"a", "\x00"}, {"", "x"}} {
		n, n2 := sum.Of(c[0], c[1]), sum.Of(c[1], c[0])
		if n != checkOf(c[0]+c[1]) || n2 != checkOf(c[1]+c[0]) {
			t.Errorf("Of(%x): %08x, turned round %08x", c, n, n2)
		}
	}
}

// The checks of two texts of one length differ by what hangs on the differing bits alone, and of several bits by the exclusive or of what each of them makes. So if the differences that the 32 bits of four bytes make have full rank, no choice of them makes none.
func TestBitsOfFourBytesThatStandTogether(t *testing.T) {
	r := rand.New(rand.NewSource(4))
	for n := 4; n <= 40; n++ {
		s := chance(r, n)
		for at := range n - 3 {
			var rows []uint32
			for bit := range 32 {
				rows = append(rows, sum.Of(s)^sum.Of(put(s, at, 1<<bit)))
			}
			if k := rank(rows); k != 32 {
				t.Fatalf("the bits of 4 bytes at %d of %d: rank %d", at, n, k)
			}
		}
	}
}

func rank(rows []uint32) int {
	k := 0
	for len(rows) > 0 {
		first := rows[0]
		rows = rows[1:]
		if first == 0 {
			continue
		}
		k++
		bit := bits.TrailingZeros32(first)
		for i, row := range rows {
			if row>>bit&1 == 1 {
				rows[i] ^= first
			}
		}
	}
	return k
}

func TestUnlikeTextsHaveUnlikeChecks(t *testing.T) {
	r := rand.New(rand.NewSource(5))
	differ := func(s string, at int, d uint32) {
		t.Helper()
		if other := put(s, at, d); sum.Of(s) == sum.Of(other) {
			t.Fatalf("%x and %x are both %08x", s, other, sum.Of(s))
		}
	}
	for _, s := range []string{"\x00\x00\x00\x00", "\xff\xff\xff\xff", "abcd", strings.Repeat("\x00", 20), strings.Repeat("\xff", 20), chance(r, 240), chance(r, 1000)} {
		for _, at := range []int{0, (len(s) - 4) / 2, len(s) - 4} {
			for bit := range 32 {
				for bit2 := range bit + 1 {
					differ(s, at, 1<<bit|1<<bit2)
				}
			}
			differ(s, at, 0xffffffff)
			differ(s, at, 0xedb88320)
			for range 2000 {
				differ(s, at, r.Uint32()|1<<r.Intn(32))
			}
		}
	}
}

func TestTextWithItsCheckBehindIt(t *testing.T) {
	r := rand.New(rand.NewSource(6))
	texts := []string{"", "\x00", "\xff", "a", "123456789", strings.Repeat("\x00", 256), strings.Repeat("\xff", 256), behind("123456789")}
	for n := range 300 {
		texts = append(texts, chance(r, n))
	}
	for _, s := range texts {
		whole := behind(s)
		if n := sum.Of(whole); n != 0x2144df1c {
			t.Fatalf("Of(%x): %08x", whole, n)
		}
		if n := sum.Of(s, whole[len(s):]); n != 0x2144df1c {
			t.Fatalf("Of(%x, %x): %08x", s, whole[len(s):], n)
		}
	}
}

func TestCheckBehindInAnotherOrder(t *testing.T) {
	for _, s := range []string{"a", "123456789"} {
		turned := binary.BigEndian.AppendUint32([]byte(s), sum.Of(s))
		if n := sum.Of(string(turned)); n == 0x2144df1c || n != checkOf(string(turned)) {
			t.Errorf("Of(%x): %08x", turned, n)
		}
	}
}

// Rules 3 and 4: the parts stay as they are, and nothing is kept from call to call.
func TestPartsStayAndNothingIsKept(t *testing.T) {
	parts := append(make([]string, 0, 9), "1234", "", "56789", "spare")
	whole := slices.Clone(parts)
	for range 3 {
		if n := sum.Of(parts[:3]...); n != 0xcbf43926 {
			t.Fatalf("Of(%q): %08x", parts[:3], n)
		}
		if n := sum.Of(); n != 0 {
			t.Fatalf("Of(): %08x", n)
		}
	}
	if !slices.Equal(parts, whole) {
		t.Errorf("the parts are %q, they were %q", parts, whole)
	}
}
