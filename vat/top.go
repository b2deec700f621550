package vat

import (
	"strings"

	"seneschal/api"
	"seneschal/plate"
)

// The letters that a top begins with, and where its numbers end.
const (
	letters  = "TOP\x00"
	turnEnd  = len(letters) + 8
	atEnd    = turnEnd + 8
	firstEnd = atEnd + 8
	genEnd   = firstEnd + 4
)

// The greatest numbers of a mark.
const (
	maxAt    = 1 << 40
	maxFirst = 1 << 40
	maxGen   = 1 << 30
)

// lastTurn is the greatest turn with which a store is opened: behind it there are more than can ever be taken.
const lastTurn = 1<<64 - 1<<32

// top tells where a log begins.
type top struct {
	turn uint64
	mark api.Mark
}

// findTop: the top of a plate that counts; ErrForm: there is none.
func findTop(d *plate.Plate) (top, api.Errno) {
	best := top{mark: api.Mark{At: 0, First: 1, Gen: 1}}
	for n := range api.Tops {
		s, e := d.Read(n)
		if e != api.OK {
			continue
		}
		if t, ok := topOf(s); ok && t.turn > best.turn {
			best = t
		}
	}
	if best.turn == 0 && !isNew(d) {
		return top{}, api.ErrForm
	}
	return best, api.OK
}

// isNew tells whether no store was ever opened on a plate for sure: the second top to be written comes into the sector 0.
func isNew(d *plate.Plate) bool {
	s, e := d.Read(0)
	return e == api.OK && strings.Trim(s, "\x00") == ""
}

// writeTop makes it sure that the log begins at a mark; ErrDown. The top that counted till then stands in the other sector.
func (v *Vat) writeTop(m api.Mark) api.Errno {
	t := top{turn: v.top.turn + 1, mark: m}
	if e := v.plate.Write(int(t.turn%api.Tops), t.sector()); e != api.OK {
		return e
	}
	if e := v.plate.Sync(); e != api.OK {
		return e
	}
	v.top = t
	return api.OK
}

// topOf: the top that a sector tells, of any turn; false, if it tells none.
func topOf(s string) (top, bool) {
	t := top{
		turn: number(s[len(letters):turnEnd]),
		mark: api.Mark{
			At:    int(number(s[turnEnd:atEnd])), // of 2^63 and above: below 0, which none is
			First: int(number(s[atEnd:firstEnd])),
			Gen:   int(number(s[firstEnd:genEnd])),
		},
	}
	return t, canBe(t.mark) && t.sector() == s
}

func canBe(m api.Mark) bool {
	return m.At >= 0 && m.At <= maxAt && m.First >= 1 && m.First <= maxFirst && m.Gen >= 1 && m.Gen <= maxGen
}

func (t top) sector() string {
	var b strings.Builder
	b.WriteString(letters)
	writeNumber(&b, t.turn, turnEnd-len(letters))
	writeNumber(&b, uint64(t.mark.At), atEnd-turnEnd)
	writeNumber(&b, uint64(t.mark.First), firstEnd-atEnd)
	writeNumber(&b, uint64(t.mark.Gen), genEnd-firstEnd)
	b.WriteString(strings.Repeat("\x00", api.Sector-b.Len()))
	return b.String()
}

// writeNumber: a number in so many bytes, the highest first.
func writeNumber(b *strings.Builder, n uint64, bytes int) {
	for i := bytes - 1; i >= 0; i-- {
		b.WriteByte(byte(n >> (8 * i)))
	}
}

func number(s string) uint64 {
	n := uint64(0)
	for _, c := range []byte(s) {
		n = n<<8 | uint64(c)
	}
	return n
}
