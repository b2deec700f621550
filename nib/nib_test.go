package nib_test

import (
	"math"
	"math/big"
	"math/rand"
	"strings"
	"testing"

	"seneschal/nib"
)

// bytesOf writes a number as the chapter says it, with numbers that have no end.
func bytesOf(n int) string {
	u := new(big.Int).Mul(big.NewInt(2), big.NewInt(int64(n)))
	if n < 0 {
		u.Neg(u).Sub(u, big.NewInt(1))
	}
	var groups []byte
	for group := new(big.Int); ; {
		u.DivMod(u, big.NewInt(128), group)
		groups = append(groups, byte(group.Int64()))
		if u.Sign() == 0 {
			break
		}
	}
	for i := range groups[:len(groups)-1] {
		groups[i] += 0x80
	}
	return string(groups)
}

// numberOf reads a number as the chapter says it: only what would have been written so counts.
func numberOf(s string) (int, string, bool) {
	end := 0
	for end < len(s) && s[end] >= 0x80 {
		end++
	}
	if end == len(s) {
		return 0, "", false
	}
	u := new(big.Int)
	for i := end; i >= 0; i-- {
		u.Mul(u, big.NewInt(128)).Add(u, big.NewInt(int64(s[i]%0x80)))
	}
	n := new(big.Int).Rsh(u, 1)
	if u.Bit(0) == 1 {
		n.Neg(n).Sub(n, big.NewInt(1))
	}
	if !n.IsInt64() || bytesOf(int(n.Int64())) != s[:end+1] {
		return 0, "", false
	}
	return int(n.Int64()), s[end+1:], true
}

// numbers are those around which the number of bytes changes, and some by chance, of all sizes.
func numbers() []int {
	list := []int{0, math.MaxInt, math.MinInt}
	for bit := range 64 {
		for d := -2; d <= 2; d++ {
			n := 1<<bit + d
			list = append(list, n, -n)
		}
	}
	r := rand.New(rand.NewSource(1))
	for range 3000 {
		n := int(r.Uint64()) >> r.Intn(64)
		list = append(list, n)
	}
	return list
}

func takeInt(t *testing.T, s string, n int, rest string, ok bool) {
	t.Helper()
	if n2, rest2, ok2 := nib.TakeInt(s); n2 != n || rest2 != rest || ok2 != ok {
		t.Fatalf("TakeInt(%x): %d %x %v, wanted %d %x %v", s, n2, rest2, ok2, n, rest, ok)
	}
}

func takeStr(t *testing.T, s string, most int, text, rest string, ok bool) {
	t.Helper()
	if text2, rest2, ok2 := nib.TakeStr(s, most); text2 != text || rest2 != rest || ok2 != ok {
		t.Fatalf("TakeStr(%x, %d): %x %x %v, wanted %x %x %v", s, most, text2, rest2, ok2, text, rest, ok)
	}
}

// P1.1

func TestIntOfKnownNumbers(t *testing.T) {
	for _, c := range []struct {
		n int
		s string
	}{
		{0, "\x00"},
		{-1, "\x01"},
		{1, "\x02"},
		{-2, "\x03"},
		{63, "\x7e"},
		{-64, "\x7f"},
		{64, "\x80\x01"},
		{-65, "\x81\x01"},
		{8191, "\xfe\x7f"},
		{-8192, "\xff\x7f"},
		{8192, "\x80\x80\x01"},
		{1 << 62, "\x80\x80\x80\x80\x80\x80\x80\x80\x80\x01"},
		{math.MaxInt, "\xfe\xff\xff\xff\xff\xff\xff\xff\xff\x01"},
		{math.MinInt, "\xff\xff\xff\xff\xff\xff\xff\xff\xff\x01"},
	} {
		if s := nib.Int(c.n); s != c.s {
			t.Errorf("Int(%d): %x, wanted %x", c.n, s, c.s)
		}
	}
}

func TestIntAsTold(t *testing.T) {
	for _, n := range numbers() {
		if s := nib.Int(n); s != bytesOf(n) {
			t.Fatalf("Int(%d): %x, wanted %x", n, s, bytesOf(n))
		}
	}
}

func TestStrIsLengthAndText(t *testing.T) {
	for _, c := range []struct{ s, want string }{
		{"", "\x00"},
		{"hi", "\x04hi"},
		{"\x00", "\x02\x00"},
		{"\xff\x80\xfe", "\x06\xff\x80\xfe"},
		{"ä", "\x04\xc3\xa4"},
		{strings.Repeat("a", 63), "\x7e" + strings.Repeat("a", 63)},
		{strings.Repeat("a", 64), "\x80\x01" + strings.Repeat("a", 64)},
		{strings.Repeat("a", 200), "\x90\x03" + strings.Repeat("a", 200)},
		{strings.Repeat("\x00", 8192), "\x80\x80\x01" + strings.Repeat("\x00", 8192)},
	} {
		if s := nib.Str(c.s); s != c.want {
			t.Errorf("Str of %d bytes: %x, wanted %x", len(c.s), s, c.want)
		}
	}
}

// P1.2

func TestTakeIntTellsTheRest(t *testing.T) {
	for _, rest := range []string{"", "\x00", "\x80", "\xff\xff", "xy", "\x80\x01"} {
		takeInt(t, "\x00"+rest, 0, rest, true)
		takeInt(t, "\x01"+rest, -1, rest, true)
		takeInt(t, "\x80\x01"+rest, 64, rest, true)
		takeInt(t, "\x80\x80\x01"+rest, 8192, rest, true)
		takeInt(t, "\xfe\xff\xff\xff\xff\xff\xff\xff\xff\x01"+rest, math.MaxInt, rest, true)
		takeInt(t, "\xff\xff\xff\xff\xff\xff\xff\xff\xff\x01"+rest, math.MinInt, rest, true)
	}
}

func TestTakeIntThatNothingEnds(t *testing.T) {
	for _, s := range []string{"", "\x80", "\xff", "\x81\x82", strings.Repeat("\x80", 9), strings.Repeat("\xff", 10), strings.Repeat("\xff", 30)} {
		takeInt(t, s, 0, "", false)
	}
}

func TestTakeIntThatEndsWithNothing(t *testing.T) {
	for _, s := range []string{"\x80\x00", "\xff\x00", "\x80\x80\x00", "\xff\x80\x00", strings.Repeat("\x80", 9) + "\x00"} {
		for _, rest := range []string{"", "\x00", "\x01xy"} {
			takeInt(t, s+rest, 0, "", false)
		}
	}
}

func TestTakeIntOfMoreThan64Bits(t *testing.T) {
	nine := strings.Repeat("\x80", 9)
	for _, s := range []string{"\x02", "\x03", "\x7f", "\x80\x00", "\x80\x01", "\x81\x00", "\x81\x01", nine + "\x01"} {
		for _, rest := range []string{"", "\x00", "\x01xy"} {
			takeInt(t, nine+s+rest, 0, "", false)
		}
	}
}

func TestTakeIntCutOff(t *testing.T) {
	for _, n := range numbers() {
		s := nib.Int(n)
		for k := range len(s) {
			takeInt(t, s[:k], 0, "", false)
		}
	}
}

func TestTakeIntOfAllFewBytes(t *testing.T) {
	for u := range 1 << 16 {
		s := string([]byte{byte(u), byte(u >> 8)})
		for _, s := range []string{s[:1], s, s + "\x00", s + "\x01", s + "\x80\x01"} {
			n, rest, ok := numberOf(s)
			takeInt(t, s, n, rest, ok)
		}
	}
}

func TestTakeIntOfManyBytes(t *testing.T) {
	r := rand.New(rand.NewSource(2))
	for range 20000 {
		b := make([]byte, 7+r.Intn(6))
		for i := range b {
			b[i] = 0x80 | byte(r.Intn(256))
		}
		b[len(b)-1] = byte(r.Intn(4))
		n, rest, ok := numberOf(string(b))
		takeInt(t, string(b), n, rest, ok)
	}
}

// P1.3

func TestTakeStrTellsTheRest(t *testing.T) {
	for _, rest := range []string{"", "\x00", "\xff", "!", "\x04hi"} {
		takeStr(t, "\x00"+rest, 9, "", rest, true)
		takeStr(t, "\x04hi"+rest, 9, "hi", rest, true)
		takeStr(t, "\x06\x80\xff\x00"+rest, 9, "\x80\xff\x00", rest, true)
	}
}

func TestTakeStrOfJustMostAndOneMore(t *testing.T) {
	for _, n := range []int{0, 1, 2, 63, 64, 200, 16384} {
		text := strings.Repeat("a", n)
		s := nib.Str(text) + "b"
		takeStr(t, s, n, text, "b", true)
		takeStr(t, s, n+1, text, "b", true)
		takeStr(t, s, math.MaxInt, text, "b", true)
		takeStr(t, s, n-1, "", "", false)
		takeStr(t, s, -1, "", "", false)
		takeStr(t, s, math.MinInt, "", "", false)
	}
}

func TestTakeStrOfNone(t *testing.T) {
	for _, s := range []string{
		"",
		"\x80", "\x80\x00", strings.Repeat("\x80", 9) + "\x02abc", // no number
		"\x01", "\x01x", "\x03xyz", nib.Int(math.MinInt) + "x", // below 0
		"\x02", "\x04h", "\x80\x01" + strings.Repeat("a", 63), // not so much stands behind it
		nib.Int(math.MaxInt), nib.Int(math.MaxInt) + "x", nib.Int(1<<40) + "x",
	} {
		for _, most := range []int{math.MinInt, -1, 0, 1, 2, 3, 64, math.MaxInt} {
			takeStr(t, s, most, "", "", false)
		}
	}
}

func TestTakeStrCutOff(t *testing.T) {
	for _, text := range []string{"", "a", "hi", strings.Repeat("a", 70), "\x00\x80\xff"} {
		s := nib.Str(text)
		for k := range len(s) {
			takeStr(t, s[:k], len(text), "", "", false)
		}
	}
}

// P1.4

func TestNumbersAreReadAsWritten(t *testing.T) {
	for _, n := range numbers() {
		for _, rest := range []string{"", "\x00", "\x01", "\x80", "\xff\xff", nib.Int(n)} {
			takeInt(t, nib.Int(n)+rest, n, rest, true)
		}
	}
}

func TestTextsAreReadAsWritten(t *testing.T) {
	r := rand.New(rand.NewSource(3))
	for range 2000 {
		b := make([]byte, r.Intn(300))
		for i := range b {
			b[i] = byte(r.Intn(256))
		}
		text := string(b)
		for _, rest := range []string{"", "\x00", "\x80", nib.Str(text)} {
			takeStr(t, nib.Str(text)+rest, len(text), text, rest, true)
		}
	}
}

func TestNoNumberBeginsWithAnother(t *testing.T) {
	list := numbers()
	for n := -9000; n <= 9000; n++ {
		list = append(list, n)
	}
	written := map[string]int{}
	for _, n := range list {
		s := nib.Int(n)
		if other, ok := written[s]; ok && other != n {
			t.Fatalf("%d and %d are both %x", n, other, s)
		}
		written[s] = n
	}
	for s, n := range written {
		for k := range len(s) {
			if other, ok := written[s[:k]]; ok {
				t.Fatalf("%d begins with %d", n, other)
			}
		}
	}
}

// Of P7 and P1: whatever bytes there are, the calls end, and what is read would have been written so.
func TestWhatIsReadWouldBeWrittenSo(t *testing.T) {
	r := rand.New(rand.NewSource(4))
	for range 50000 {
		b := make([]byte, r.Intn(14))
		for i := range b {
			b[i] = byte(r.Intn(256))
			if r.Intn(3) == 0 {
				b[i] = byte(r.Intn(8)) // short lengths, so that texts are found, too
			}
		}
		s := string(b)
		if n, rest, ok := nib.TakeInt(s); ok && nib.Int(n)+rest != s {
			t.Fatalf("TakeInt(%x): %d %x", s, n, rest)
		}
		if text, rest, ok := nib.TakeStr(s, r.Intn(12)-1); ok && nib.Str(text)+rest != s {
			t.Fatalf("TakeStr(%x): %x %x", s, text, rest)
		}
	}
}
