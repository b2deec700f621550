package scroll

import (
	"iter"
	"strings"

	"seneschal/api"
	"seneschal/plate"
)

// Where the numbers of a head stand in a sector, behind that of the sector, and where the load does.
const (
	genAt   = 8
	firstAt = genAt + 4
	countAt = firstAt + 8
	usedAt  = countAt + 2
	loadAt  = usedAt + 2
)

// head is what stands ahead of a sector's load: its number n; the generation; of the batch, the number of its first sector and how many sectors it has; how many bytes of the load are used.
type head struct{ n, gen, first, count, used int }

// ground is the sectors of a plate that a log has, round and round.
type ground struct {
	plate       *plate.Plate
	from, count int
}

// sectorsOf: how many sectors so many bytes of a batch need.
func sectorsOf(length int) int {
	return (length + api.Load - 1) / api.Load
}

// batch: the sectors, by their numbers, of the batch that begins with the sector first.
func batch(first, gen int, body string) iter.Seq2[int, string] {
	return func(yield func(int, string) bool) {
		count := sectorsOf(len(body))
		for n := first; n < first+count; n++ {
			used := min(len(body), api.Load)
			if !yield(n, head{n, gen, first, count, used}.sector(body[:used])) {
				return
			}
			body = body[used:]
		}
	}
}

func (h head) sector(load string) string {
	var b strings.Builder
	writeNumber(&b, h.n, genAt)
	writeNumber(&b, h.gen, firstAt-genAt)
	writeNumber(&b, h.first, countAt-firstAt)
	writeNumber(&b, h.count, usedAt-countAt)
	writeNumber(&b, h.used, loadAt-usedAt)
	b.WriteString(load)
	b.WriteString(strings.Repeat("\x00", api.Load-len(load)))
	return b.String()
}

// headOf: the head that a sector's bytes begin with, whatever it says.
func headOf(s string) head {
	return head{
		n:     readNumber(s[:genAt]),
		gen:   readNumber(s[genAt:firstAt]),
		first: readNumber(s[firstAt:countAt]),
		count: readNumber(s[countAt:usedAt]),
		used:  readNumber(s[usedAt:loadAt]),
	}
}

// writeNumber: a number in so many bytes, the highest first.
func writeNumber(b *strings.Builder, n, bytes int) {
	for i := bytes - 1; i >= 0; i-- {
		b.WriteByte(byte(n >> (8 * i)))
	}
}

// readNumber: eight bytes may wrap round to a number below 0, which no log has: it is still told from all others.
func readNumber(s string) int {
	n := 0
	for _, c := range []byte(s) {
		n = n<<8 | int(c)
	}
	return n
}

func (g ground) place(n int) int {
	return g.from + n%g.count
}

func (g ground) write(n int, s string) api.Errno {
	return g.plate.Write(g.place(n), s)
}

// sector: the head and the load of the sector n; false, if it can't be read, or isn't as a sector is written.
func (g ground) sector(n int) (head, string, bool) {
	s, e := g.plate.Read(g.place(n))
	if e != api.OK {
		return head{}, "", false
	}
	h := headOf(s)
	if h.used < 1 || h.used > api.Load {
		return head{}, "", false
	}
	load := s[loadAt : loadAt+h.used]
	return h, load, h.sector(load) == s
}

// read: the first head and all bytes of the batch that begins with the sector first and has at most so many sectors; false, if there is no whole one.
func (g ground) read(first, most int) (head, string, bool) {
	top, _, ok := g.sector(first)
	if !ok || top.count < 1 || top.count > min(most, api.MaxBatch) {
		return head{}, "", false
	}
	var body strings.Builder
	for k := range top.count {
		h, load, ok := g.sector(first + k)
		if !ok || h != (head{first + k, top.gen, first, top.count, h.used}) {
			return head{}, "", false
		}
		if h.used < api.Load && k < top.count-1 {
			return head{}, "", false
		}
		body.WriteString(load)
	}
	return top, body.String(), true
}
