// Package nib is layer 1: numbers and texts as bytes, as few as may be. See shared/doc/01-nib.md.
package nib

// A byte of a number has a group of its bits, and a flag that another byte comes behind it.
const (
	groupBits = 7
	flag      = 1 << groupBits
	mostBytes = 10 // so many groups hold 64 bits; the last of them holds just one
)

// Int: the bytes of a number.
func Int(n int) string {
	var b [mostBytes]byte
	last := 0
	u := fold(n)
	for ; u >= flag; u >>= groupBits {
		b[last] = byte(u) | flag
		last++
	}
	b[last] = byte(u)
	return string(b[:last+1])
}

// Str: the bytes of a text: how long it is, and the text.
func Str(s string) string {
	return Int(len(s)) + s
}

// TakeInt: the number that bytes begin with, and what stands behind it; false: there is none.
func TakeInt(s string) (int, string, bool) {
	var u uint64
	for i := range min(len(s), mostBytes) {
		b := s[i]
		u |= uint64(b&^flag) << (i * groupBits)
		if b >= flag {
			continue
		}
		if !ends(i, b) {
			break
		}
		return unfold(u), s[i+1:], true
	}
	return 0, "", false
}

// TakeStr: the text that bytes begin with, of at most most bytes, and what stands behind it; false: there is none.
func TakeStr(s string, most int) (string, string, bool) {
	n, rest, ok := TakeInt(s)
	if !ok || n < 0 || n > most || n > len(rest) {
		return "", "", false
	}
	return rest[:n], rest[n:], true
}

// ends tells whether a number can end with the byte b at i: a last group of 0 would give it a second form, and of the last of most bytes all but one bit lie beyond the 64.
func ends(i int, b byte) bool {
	return (b > 0 || i == 0) && (b == 1 || i < mostBytes-1)
}

// fold puts the sign into the lowest bit, so that numbers a little below 0 have few bytes, too.
func fold(n int) uint64 {
	return uint64(n)<<1 ^ uint64(n>>63)
}

func unfold(u uint64) int {
	return int(u>>1) ^ -int(u&1)
}
