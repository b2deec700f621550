package plate_test

import (
	"math"
	"math/rand"
	"slices"
	"strings"
	"testing"

	"seneschal/api"
	"seneschal/plate"
)

// sector is bytes of a sector that are told from those of another one by their number.
func sector(k int) string {
	return strings.Repeat(string([]byte{byte(k), byte(k >> 8), byte(k >> 16), 1}), 64)
}

var zeros = strings.Repeat("\x00", 256)

func code(t *testing.T, what string, got, want api.Errno) {
	t.Helper()
	if got != want {
		t.Errorf("%s: %d, wanted %d", what, got, want)
	}
}

func write(t *testing.T, p *plate.Plate, n int, s string, want api.Errno) {
	t.Helper()
	code(t, "Write", p.Write(n, s), want)
}

func sync(t *testing.T, p *plate.Plate, want api.Errno) {
	t.Helper()
	code(t, "Sync", p.Sync(), want)
}

func has(t *testing.T, p *plate.Plate, n int, want string) {
	t.Helper()
	if s, e := p.Read(n); s != want || e != 0 {
		t.Errorf("Read(%d): %.8q of %d, %d, wanted %.8q", n, s, len(s), e, want)
	}
}

func hasNot(t *testing.T, p *plate.Plate, n int, want api.Errno) {
	t.Helper()
	if s, e := p.Read(n); s != "" || e != want {
		t.Errorf("Read(%d): %.8q of %d, %d, wanted %d", n, s, len(s), e, want)
	}
}

func state(t *testing.T, p *plate.Plate, down bool, waits, acts, life int) {
	t.Helper()
	if p.Down() != down || p.Waits() != waits || p.Acts() != acts || p.Life() != life {
		t.Errorf("Down %v, Waits %d, Acts %d, Life %d, wanted %v, %d, %d, %d", p.Down(), p.Waits(), p.Acts(), p.Life(), down, waits, acts, life)
	}
}

// noSectors are numbers that no sector of a plate of four has.
var noSectors = []int{math.MinInt, math.MinInt32, -4, -1, 4, 5, 1 << 14, math.MaxInt32, 1 << 32, math.MaxInt}

// noBytes are not just 256.
func noBytes() []string {
	return []string{"", "a", sector(1)[:255], sector(1) + "a", sector(1) + sector(2)}
}

// plain is a plate read plainly: all writes that ever were done or torn are kept, and the last one of a sector counts.
type plain struct {
	count   int
	settled []put
	waiting []put
	down    bool
	armed   int
	acts    int
	life    int
}

type put struct {
	n    int
	s    string
	torn bool
}

func lastOf(list []put, n int) (put, bool) {
	found, ok := put{}, false
	for _, x := range list {
		if x.n == n {
			found, ok = x, true
		}
	}
	return found, ok
}

func (m *plain) act() api.Errno {
	m.acts++
	if m.armed > 0 {
		m.armed--
		if m.armed == 0 {
			m.down = true
			m.life++
			return 10
		}
	}
	return 0
}

func (m *plain) write(n int, s string) api.Errno {
	if m.down {
		return 10
	}
	if n < 0 || n >= m.count || len(s) != 256 {
		return 1
	}
	m.waiting = append(m.waiting, put{n: n, s: s})
	return m.act()
}

func (m *plain) sync() api.Errno {
	if m.down {
		return 10
	}
	if m.act() != 0 {
		return 10
	}
	m.settled = append(m.settled, m.waiting...)
	m.waiting = nil
	return 0
}

func (m *plain) read(n int) (string, api.Errno) {
	if m.down {
		return "", 10
	}
	if n < 0 || n >= m.count {
		return "", 1
	}
	if x, ok := lastOf(append(slices.Clone(m.settled), m.waiting...), n); !ok {
		return zeros, 0
	} else if x.torn {
		return "", 20
	} else {
		return x.s, 0
	}
}

func (m *plain) arm(n int) {
	m.armed = 0
	if n > 0 {
		m.armed = n
	}
}

func (m *plain) off() {
	if !m.down {
		m.life++
	}
	m.down = true
	m.armed = 0
}

func (m *plain) on(fates []int) {
	if !m.down {
		return
	}
	m.down = false
	for i, x := range m.waiting {
		if len(fates) == 0 {
			continue
		}
		fate := fates[i%len(fates)]
		for fate < 0 {
			fate += 3
		}
		switch fate % 3 {
		case 1:
			m.settled = append(m.settled, x)
		case 2:
			m.settled = append(m.settled, put{n: x.n, torn: true})
		}
	}
	m.waiting = nil
}

func agree(t *testing.T, p *plate.Plate, m *plain) {
	t.Helper()
	state(t, p, m.down, len(m.waiting), m.acts, m.life)
	if p.Sectors() != m.count {
		t.Errorf("Sectors %d, wanted %d", p.Sectors(), m.count)
	}
	for n := -1; n <= m.count; n++ {
		want, e := m.read(n)
		if s, e2 := p.Read(n); s != want || e2 != e {
			t.Errorf("Read(%d): %.8q, %d, wanted %.8q, %d", n, s, e2, want, e)
		}
	}
}

// P6.1

func TestNew(t *testing.T) {
	for _, c := range []struct{ sectors, want int }{
		{math.MinInt, 1}, {-1 << 14, 1}, {-1, 1}, {0, 1}, {1, 1}, {2, 2}, {3, 3}, {100, 100},
		{1<<14 - 1, 1<<14 - 1}, {1 << 14, 1 << 14}, {1<<14 + 1, 1 << 14}, {1 << 32, 1 << 14}, {math.MaxInt, 1 << 14},
	} {
		p := plate.New(c.sectors)
		if p == nil || p.Sectors() != c.want {
			t.Fatalf("New(%d): %d, wanted %d", c.sectors, p.Sectors(), c.want)
		}
		state(t, p, false, 0, 0, 0)
		for n := range c.want {
			has(t, p, n, zeros)
		}
		hasNot(t, p, c.want, api.ErrArg)
		hasNot(t, p, -1, api.ErrArg)
		write(t, p, c.want, sector(1), api.ErrArg)
		write(t, p, c.want-1, sector(1), 0)
		sync(t, p, 0)
		has(t, p, c.want-1, sector(1))
		state(t, p, false, 0, 2, 0)
	}
}

func TestNothingIsArmedAtFirst(t *testing.T) {
	p := plate.New(1)
	for k := range 3000 {
		write(t, p, 0, sector(k), 0)
		if k%7 == 0 {
			sync(t, p, 0)
		}
	}
	state(t, p, false, 3, 3429, 0)
}

func TestWaitsActsAndLife(t *testing.T) {
	p := plate.New(4)
	write(t, p, 0, sector(1), 0)
	state(t, p, false, 1, 1, 0)
	write(t, p, 0, sector(1), 0)
	state(t, p, false, 2, 2, 0)
	write(t, p, 3, sector(2), 0)
	state(t, p, false, 3, 3, 0)
	has(t, p, 3, sector(2))
	state(t, p, false, 3, 3, 0)
	sync(t, p, 0)
	state(t, p, false, 0, 4, 0)
	sync(t, p, 0)
	state(t, p, false, 0, 5, 0)
	write(t, p, 1, sector(3), 0)
	p.Off()
	state(t, p, true, 1, 6, 1)
	p.On(nil)
	state(t, p, false, 0, 6, 1)
	p.Off()
	state(t, p, true, 0, 6, 2)
	p.On([]int{1})
	state(t, p, false, 0, 6, 2)
}

func TestWhatIsRefusedIsNoAct(t *testing.T) {
	p := plate.New(4)
	write(t, p, 0, sector(1), 0)
	for _, n := range noSectors {
		write(t, p, n, sector(2), api.ErrArg)
		hasNot(t, p, n, api.ErrArg)
	}
	for _, s := range noBytes() {
		write(t, p, 0, s, api.ErrArg)
	}
	state(t, p, false, 1, 1, 0)
	has(t, p, 0, sector(1))
	p.Off()
	write(t, p, 0, sector(2), api.ErrDown)
	sync(t, p, api.ErrDown)
	hasNot(t, p, 0, api.ErrDown)
	state(t, p, true, 1, 1, 1)
	p.On([]int{1})
	has(t, p, 0, sector(1))
}

func TestOfANilPlate(t *testing.T) {
	var p *plate.Plate
	for range 2 {
		if p.Sectors() != 0 {
			t.Error(p.Sectors())
		}
		state(t, p, true, 0, 0, 0)
		for _, n := range append(noSectors, 0, 1) {
			hasNot(t, p, n, api.ErrNil)
			write(t, p, n, sector(1), api.ErrNil)
			write(t, p, n, "", api.ErrNil)
		}
		sync(t, p, api.ErrNil)
		p.Off()
		p.On(nil)
		p.On([]int{1, 2})
		p.Arm(1)
		p.Arm(-1)
	}
}

func TestPlatesAreApart(t *testing.T) {
	p, q := plate.New(2), plate.New(2)
	write(t, p, 0, sector(1), 0)
	p.Arm(5)
	has(t, q, 0, zeros)
	state(t, q, false, 0, 0, 0)
	q.Off()
	state(t, p, false, 1, 1, 0)
	sync(t, p, 0)
	q.On([]int{1})
	has(t, q, 0, zeros)
	has(t, p, 0, sector(1))
}

// P6.2

func TestExample(t *testing.T) {
	for _, c := range []struct {
		fates []int
		want  string
		e     api.Errno
	}{{nil, sector(1), 0}, {[]int{0}, sector(1), 0}, {[]int{1}, sector(2), 0}, {[]int{2}, "", api.ErrSum}} {
		p := plate.New(4)
		write(t, p, 3, sector(1), 0)
		sync(t, p, 0)
		write(t, p, 3, sector(2), 0)
		p.Off()
		p.On(c.fates)
		if s, e := p.Read(3); s != c.want || e != c.e {
			t.Errorf("%v: %.8q, %d, wanted %.8q, %d", c.fates, s, e, c.want, c.e)
		}
		for n := range 3 {
			has(t, p, n, zeros)
		}
	}
}

func TestReadTellsTheLastThatWaits(t *testing.T) {
	p := plate.New(3)
	write(t, p, 1, sector(1), 0)
	write(t, p, 2, sector(2), 0)
	write(t, p, 1, sector(3), 0)
	write(t, p, 2, sector(4), 0)
	write(t, p, 1, sector(5), 0)
	for range 2 {
		has(t, p, 0, zeros)
		has(t, p, 1, sector(5))
		has(t, p, 2, sector(4))
	}
	sync(t, p, 0)
	has(t, p, 0, zeros)
	has(t, p, 1, sector(5))
	has(t, p, 2, sector(4))
	write(t, p, 1, zeros, 0)
	has(t, p, 1, zeros)
	has(t, p, 2, sector(4))
}

func TestAnyBytesAreKept(t *testing.T) {
	p := plate.New(256)
	var list []string
	for k := range 256 {
		b := make([]byte, 256)
		for i := range b {
			b[i] = byte(i*k + k)
		}
		list = append(list, string(b))
		write(t, p, k, string(b), 0)
	}
	for range 2 {
		for k, s := range list {
			has(t, p, k, s)
		}
		sync(t, p, 0)
	}
}

// ErrDown is told ahead of ErrArg, and ErrArg of ErrSum.
func TestWhichErrorComesFirst(t *testing.T) {
	p := plate.New(4)
	write(t, p, 1, sector(1), 0)
	p.Off()
	for _, n := range append(noSectors, 0, 1, 3) {
		hasNot(t, p, n, api.ErrDown)
		write(t, p, n, sector(1), api.ErrDown)
		for _, s := range noBytes() {
			write(t, p, n, s, api.ErrDown)
		}
	}
	sync(t, p, api.ErrDown)
	p.On([]int{2})
	hasNot(t, p, 1, api.ErrSum)
	for _, n := range noSectors {
		hasNot(t, p, n, api.ErrArg)
		write(t, p, n, sector(1), api.ErrArg)
	}
	p.Arm(1)
	for _, n := range noSectors {
		write(t, p, n, sector(1), api.ErrArg)
		hasNot(t, p, n, api.ErrArg)
	}
	for _, s := range noBytes() {
		write(t, p, 1, s, api.ErrArg)
	}
	hasNot(t, p, 1, api.ErrSum)
	state(t, p, false, 0, 1, 1)
	write(t, p, 1, sector(2), api.ErrDown)
	state(t, p, true, 1, 2, 2)
}

func TestATornSector(t *testing.T) {
	tear := func() *plate.Plate {
		p := plate.New(4)
		write(t, p, 1, sector(1), 0)
		sync(t, p, 0)
		write(t, p, 1, sector(2), 0)
		p.Off()
		p.On([]int{2})
		return p
	}
	p := tear()
	for range 2 {
		hasNot(t, p, 1, api.ErrSum)
		has(t, p, 0, zeros)
		has(t, p, 2, zeros)
		sync(t, p, 0)
	}
	write(t, p, 1, sector(3), 0) // it waits, and is read
	has(t, p, 1, sector(3))
	p.Off()
	p.On([]int{0}) // lost: it is torn still
	hasNot(t, p, 1, api.ErrSum)
	write(t, p, 1, sector(4), 0)
	p.Off()
	p.On([]int{2})
	hasNot(t, p, 1, api.ErrSum)
	write(t, p, 1, sector(5), 0)
	p.Off()
	p.On([]int{1})
	has(t, p, 1, sector(5))

	p = tear()
	write(t, p, 1, sector(6), 0)
	sync(t, p, 0)
	has(t, p, 1, sector(6))
	p.Off()
	p.On([]int{2})
	has(t, p, 1, sector(6))
}

// Whether a sector is torn hangs on the last of its writes that wasn't lost.
func TestTornByTheLastWrite(t *testing.T) {
	for _, c := range []struct {
		fates []int
		want  string
		e     api.Errno
	}{
		{[]int{2, 2}, "", api.ErrSum}, {[]int{1, 2}, "", api.ErrSum}, {[]int{0, 2}, "", api.ErrSum},
		{[]int{2, 1}, sector(3), 0}, {[]int{1, 1}, sector(3), 0}, {[]int{0, 1}, sector(3), 0},
		{[]int{2, 0}, "", api.ErrSum}, {[]int{1, 0}, sector(2), 0}, {[]int{0, 0}, sector(1), 0},
	} {
		p := plate.New(4)
		write(t, p, 3, sector(1), 0)
		sync(t, p, 0)
		write(t, p, 3, sector(2), 0)
		write(t, p, 3, sector(3), 0)
		p.Off()
		p.On(c.fates)
		if s, e := p.Read(3); s != c.want || e != c.e {
			t.Errorf("%v: %.8q, %d, wanted %.8q, %d", c.fates, s, e, c.want, c.e)
		}
	}
}

func TestThePowerGoesInAWrite(t *testing.T) {
	for fate, want := range []string{sector(1), sector(3), ""} {
		p := plate.New(4)
		write(t, p, 1, sector(1), 0)
		sync(t, p, 0)
		write(t, p, 2, sector(2), 0)
		p.Arm(1)
		write(t, p, 1, sector(3), api.ErrDown)
		state(t, p, true, 2, 4, 1)
		write(t, p, 1, sector(4), api.ErrDown)
		sync(t, p, api.ErrDown)
		hasNot(t, p, 1, api.ErrDown)
		state(t, p, true, 2, 4, 1)
		p.On([]int{1, fate}) // it waited behind the other one
		has(t, p, 2, sector(2))
		if want == "" {
			hasNot(t, p, 1, api.ErrSum)
		} else {
			has(t, p, 1, want)
		}
		state(t, p, false, 0, 4, 1)
	}
}

func TestThePowerGoesInASync(t *testing.T) {
	for fate, want := range []string{sector(1), sector(3), ""} {
		p := plate.New(4)
		write(t, p, 1, sector(1), 0)
		write(t, p, 2, sector(2), 0)
		sync(t, p, 0)
		write(t, p, 1, sector(3), 0)
		p.Arm(1)
		sync(t, p, api.ErrDown)
		state(t, p, true, 1, 5, 1)
		p.On([]int{fate})
		has(t, p, 2, sector(2))
		if want == "" {
			hasNot(t, p, 1, api.ErrSum)
		} else {
			has(t, p, 1, want)
		}
		sync(t, p, 0)
		state(t, p, false, 0, 6, 1)
	}
}

// P6.3

func TestArm(t *testing.T) {
	for n := 1; n <= 12; n++ {
		p := plate.New(4)
		write(t, p, 0, sector(0), 0)
		p.Arm(n)
		for k := 1; k < n; k++ {
			if k%3 == 0 {
				sync(t, p, 0)
			} else {
				write(t, p, k%4, sector(k), 0)
			}
			p.Read(0)
			write(t, p, 4, sector(k), api.ErrArg)
			write(t, p, 0, "", api.ErrArg)
			state(t, p, false, p.Waits(), k+1, 0)
		}
		if n%2 == 0 {
			sync(t, p, api.ErrDown)
		} else {
			write(t, p, 0, sector(99), api.ErrDown)
		}
		state(t, p, true, p.Waits(), n+1, 1)
		p.On(nil)
		for range 20 { // it goes in the n-th alone
			sync(t, p, 0)
		}
		state(t, p, false, 0, n+21, 1)
	}
}

func TestArmTakesThePlaceOfWhatWasArmed(t *testing.T) {
	for _, n := range []int{0, -1, -7, math.MinInt} {
		p := plate.New(4)
		p.Arm(n)
		sync(t, p, 0)
		p.Arm(1)
		p.Arm(n)
		for range 9 {
			sync(t, p, 0)
		}
		state(t, p, false, 0, 10, 0)
	}
	p := plate.New(4)
	p.Arm(1)
	p.Arm(3)
	sync(t, p, 0)
	sync(t, p, 0)
	sync(t, p, api.ErrDown)
	p.On(nil)
	p.Arm(math.MaxInt)
	sync(t, p, 0)
	p.Arm(2)
	sync(t, p, 0)
	p.Arm(2) // from now on
	sync(t, p, 0)
	sync(t, p, api.ErrDown)
	state(t, p, true, 0, 7, 2)
}

func TestOff(t *testing.T) {
	p := plate.New(4)
	p.Arm(2)
	write(t, p, 0, sector(1), 0)
	p.Off()
	state(t, p, true, 1, 1, 1)
	for range 3 {
		p.Off()
		state(t, p, true, 1, 1, 1)
	}
	p.On([]int{1})
	for range 9 { // nothing is armed any more
		sync(t, p, 0)
	}
	state(t, p, false, 0, 10, 1)
	has(t, p, 0, sector(1))
}

// What is armed while the power is off is so behind an On, unless an Off comes.
func TestArmWhileItIsOff(t *testing.T) {
	p := plate.New(4)
	p.Off()
	p.Arm(2)
	sync(t, p, api.ErrDown)
	write(t, p, 0, sector(1), api.ErrDown)
	state(t, p, true, 0, 0, 1)
	p.On(nil)
	p.On(nil)
	sync(t, p, 0)
	sync(t, p, api.ErrDown)
	state(t, p, true, 0, 2, 2)
	p.Arm(1)
	p.Off()
	p.On(nil)
	sync(t, p, 0)
	state(t, p, false, 0, 3, 2)
}

func TestOnWhileItIsOn(t *testing.T) {
	p := plate.New(4)
	write(t, p, 0, sector(1), 0)
	p.Arm(2)
	for _, fates := range [][]int{nil, {0}, {1}, {2}} {
		p.On(fates)
		state(t, p, false, 1, 1, 0)
		has(t, p, 0, sector(1))
	}
	sync(t, p, 0)
	has(t, p, 0, sector(1))
	sync(t, p, api.ErrDown)
	p.On([]int{2})
	p.On([]int{2})
	has(t, p, 0, sector(1))
}

func TestFates(t *testing.T) {
	const lost, done, torn = 0, 1, 2
	for _, c := range []struct {
		fates []int
		want  []int
	}{
		{nil, []int{lost, lost, lost, lost, lost}},
		{[]int{}, []int{lost, lost, lost, lost, lost}},
		{[]int{0}, []int{lost, lost, lost, lost, lost}},
		{[]int{1}, []int{done, done, done, done, done}},
		{[]int{2}, []int{torn, torn, torn, torn, torn}},
		{[]int{0, 1}, []int{lost, done, lost, done, lost}},
		{[]int{2, 1, 0}, []int{torn, done, lost, torn, done}},
		{[]int{0, 1, 2, 1, 0}, []int{lost, done, torn, done, lost}},
		{[]int{0, 1, 2, 1, 0, 2, 2}, []int{lost, done, torn, done, lost}},
		{[]int{3, 4, 5, 6, 7}, []int{lost, done, torn, lost, done}},
		{[]int{-1, -2, -3, -4, -5}, []int{torn, done, lost, torn, done}},
		{[]int{math.MaxInt, math.MinInt, math.MaxInt - 1, math.MinInt + 1, math.MinInt + 2}, []int{done, done, lost, torn, lost}},
		{[]int{math.MaxInt32, math.MinInt32}, []int{done, done, done, done, done}},
	} {
		p := plate.New(5)
		for n := range 5 {
			write(t, p, n, sector(n), 0)
		}
		sync(t, p, 0)
		for n := range 5 {
			write(t, p, n, sector(n+5), 0)
		}
		p.Off()
		fates := slices.Clone(c.fates)
		p.On(fates)
		if !slices.Equal(fates, c.fates) {
			t.Errorf("%v was changed to %v", c.fates, fates)
		}
		for n, fate := range c.want {
			switch fate {
			case lost:
				has(t, p, n, sector(n))
			case done:
				has(t, p, n, sector(n+5))
			case torn:
				hasNot(t, p, n, api.ErrSum)
			}
		}
		state(t, p, false, 0, 11, 1)
	}
}

func TestFatesAreOfTheOrderOfTheWrites(t *testing.T) {
	p := plate.New(4)
	write(t, p, 3, sector(1), 0)
	write(t, p, 0, sector(2), 0)
	write(t, p, 3, sector(3), 0)
	write(t, p, 2, sector(4), 0)
	write(t, p, 3, sector(5), 0)
	p.Off()
	p.On([]int{1, 2, 0, 1, 0})
	hasNot(t, p, 0, api.ErrSum)
	has(t, p, 1, zeros)
	has(t, p, 2, sector(4))
	has(t, p, 3, sector(1))
}

func TestFatesAreNotKept(t *testing.T) {
	p := plate.New(4)
	write(t, p, 0, sector(1), 0)
	p.Off()
	fates := []int{1, 1, 1}
	p.On(fates[:1])
	if !slices.Equal(fates, []int{1, 1, 1}) {
		t.Error(fates)
	}
	write(t, p, 0, sector(2), 0)
	fates[0] = 2
	has(t, p, 0, sector(2))
	p.Off()
	p.On(nil)
	has(t, p, 0, sector(1))
}

// P6.4

func TestWhatIsSyncedStays(t *testing.T) {
	for _, fate := range []int{0, 1, 2} {
		p := plate.New(8)
		for n := range 4 {
			write(t, p, n, sector(n), 0)
		}
		sync(t, p, 0)
		write(t, p, 4, sector(4), 0)
		write(t, p, 5, sector(5), 0)
		p.Arm(1)
		sync(t, p, api.ErrDown)
		p.On([]int{fate})
		p.Off()
		p.On([]int{2})
		p.Off()
		p.On([]int{1})
		for n := range 4 {
			has(t, p, n, sector(n))
		}
		for n := 4; n < 6; n++ {
			switch fate {
			case 0:
				has(t, p, n, zeros)
			case 1:
				has(t, p, n, sector(n))
			case 2:
				hasNot(t, p, n, api.ErrSum)
			}
		}
		has(t, p, 6, zeros)
	}
}

// Each of what waits becomes what it can, whatever the others do.
func TestEachFateOfEachWrite(t *testing.T) {
	for k := range 81 {
		fates := []int{k % 3, k / 3 % 3, k / 9 % 3, k / 27}
		p := plate.New(3)
		m := &plain{count: 3}
		for i, n := range []int{0, 1, 0, 2} {
			s := sector(i)
			write(t, p, n, s, 0)
			m.write(n, s)
		}
		p.Off()
		m.off()
		agree(t, p, m)
		p.On(fates)
		m.on(fates)
		agree(t, p, m)
	}
}

func TestReadOnlyReads(t *testing.T) {
	p := plate.New(4)
	write(t, p, 0, sector(1), 0)
	p.Arm(2)
	for range 50 {
		for n := -1; n < 5; n++ {
			p.Read(n)
		}
		p.Sectors()
		state(t, p, false, 1, 1, 0)
	}
	write(t, p, 1, sector(2), 0)
	sync(t, p, api.ErrDown)
	for range 50 {
		hasNot(t, p, 0, api.ErrDown)
		state(t, p, true, 2, 3, 1)
	}
	p.On([]int{1, 2})
	for range 50 {
		has(t, p, 0, sector(1))
		hasNot(t, p, 1, api.ErrSum)
	}
	state(t, p, false, 0, 3, 1)
}

func TestByChance(t *testing.T) {
	chance := rand.New(rand.NewSource(6))
	ends := []int{math.MinInt, -5, -1, 0, 1, 2, 3, 4, 8, math.MaxInt}
	for range 300 {
		count := 1 + chance.Intn(6)
		p, m := plate.New(count), &plain{count: count}
		for k := range 60 {
			switch chance.Intn(12) {
			case 0, 1, 2, 3, 4:
				n, s := chance.Intn(count), sector(k)
				code(t, "Write", p.Write(n, s), m.write(n, s))
			case 5, 6:
				code(t, "Sync", p.Sync(), m.sync())
			case 7:
				n, s := ends[chance.Intn(len(ends))], sector(k)[:255+chance.Intn(2)]
				code(t, "Write", p.Write(n, s), m.write(n, s))
			case 8:
				n := ends[chance.Intn(len(ends))]
				p.Arm(n)
				m.arm(n)
			case 9:
				p.Off()
				m.off()
			default:
				var fates []int
				for range chance.Intn(5) {
					fates = append(fates, chance.Intn(13)-6)
				}
				p.On(fates)
				m.on(fates)
			}
			agree(t, p, m)
		}
		if t.Failed() {
			return
		}
	}
}

// P1 of DOC.md

func TestCallsEndWhateverIsGiven(t *testing.T) {
	numbers := append(noSectors, 0, 1, 2, 3)
	texts := append(noBytes(), sector(1))
	p := plate.New(4)
	for _, n := range numbers {
		for _, s := range texts {
			p.Arm(n)
			p.Write(n, s)
			p.Read(n)
			p.Sync()
			p.On(numbers)
			p.Write(n, s)
			p.Off()
			p.On([]int{n})
			p.Read(n)
		}
		plate.New(n).Sectors()
	}
}

func TestManyWritesWait(t *testing.T) {
	p := plate.New(1 << 14)
	for k := range 1 << 16 {
		if e := p.Write(k*7%(1<<14), sector(k)); e != 0 {
			t.Fatal(e)
		}
	}
	state(t, p, false, 1<<16, 1<<16, 0)
	p.Off()
	p.On([]int{1})
	for k := 3 << 14; k < 1<<16; k++ {
		has(t, p, k*7%(1<<14), sector(k))
	}
}
