package disk_test

import (
	"math"
	"slices"
	"strings"
	"testing"
	"unsafe"

	"coppice/api"
	"coppice/disk"
)

// The calls as the chapter lists them.
var (
	_ func(sectors int) (*disk.Disk, api.Errno)               = disk.New
	_ func(d *disk.Disk) int                                  = (*disk.Disk).Sectors
	_ func(d *disk.Disk, n int) (string, api.Errno)           = (*disk.Disk).Read
	_ func(d *disk.Disk, n int, data string) api.Errno        = (*disk.Disk).Write
	_ func(d *disk.Disk) api.Errno                            = (*disk.Disk).Flush
	_ func(d *disk.Disk, calls int)                           = (*disk.Disk).Power
	_ func(d *disk.Disk) bool                                 = (*disk.Disk).Down
	_ func(d *disk.Disk) int                                  = (*disk.Disk).Open
	_ func(d *disk.Disk, fates []int) (whatIsLeft *disk.Disk) = (*disk.Disk).Crash
	_ func(d *disk.Disk) (another *disk.Disk)                 = (*disk.Disk).Copy
)

var (
	zeros = strings.Repeat("\x00", 1024)
	as    = strings.Repeat("a", 1024)
	bs    = strings.Repeat("b", 1024)
	cs    = strings.Repeat("c", 1024)
)

// numbers answers ever the same row of numbers, so that a test that fails fails again.
func numbers(seed uint64) func(below int) int {
	return func(below int) int {
		seed ^= seed << 13
		seed ^= seed >> 7
		seed ^= seed << 17
		return int(seed >> 20 % uint64(below))
	}
}

// made is a disk that New answers without an error.
func made(t *testing.T, sectors int) *disk.Disk {
	t.Helper()
	d, e := disk.New(sectors)
	if e != api.OK || d == nil {
		t.Fatal("P3.1: New", sectors, e)
	}
	return d
}

// wants asks whether calls answered these errors, one behind the other.
func wants(t *testing.T, what string, want []api.Errno, got ...api.Errno) {
	t.Helper()
	if !slices.Equal(want, got) {
		t.Errorf("%s: %v, want %v", what, got, want)
	}
}

// has asks whether the disk's first sectors read as these texts.
func has(t *testing.T, what string, d *disk.Disk, want ...string) {
	t.Helper()
	for n, w := range want {
		if s, e := d.Read(n); e != api.OK || s != w {
			t.Errorf("%s: sector %d: error %d, begins %.5q, want %.5q", what, n, e, s, w)
		}
	}
}

// is asks how many writes are open, and whether the power is gone.
func is(t *testing.T, what string, d *disk.Disk, open int, down bool) {
	t.Helper()
	if d.Open() != open || d.Down() != down {
		t.Errorf("%s: %d open, down %v; want %d, %v", what, d.Open(), d.Down(), open, down)
	}
}

// plainWrite is one that is open.
type plainWrite struct {
	n    int
	data string
}

// plainDisk is a disk as the chapter's words say it.
type plainDisk struct {
	flushed []string
	open    []plainWrite
	goes    bool // the power is told to go behind calls
	calls   int
	down    bool
}

func plainNew(sectors int) *plainDisk {
	return &plainDisk{flushed: slices.Repeat([]string{zeros}, sectors)}
}

func (p *plainDisk) no(n int) bool { return n < 0 || n > len(p.flushed)-1 }

func (p *plainDisk) Read(n int) (string, api.Errno) {
	if p.down {
		return "", api.ErrDown
	}
	if p.no(n) {
		return "", api.ErrSector
	}
	s := p.flushed[n]
	for _, w := range p.open {
		if w.n == n {
			s = w.data
		}
	}
	return s, api.OK
}

// counted does what the power does to a call of Write or Flush that is else answered by e.
func (p *plainDisk) counted(e api.Errno) api.Errno {
	if p.down {
		return api.ErrDown
	}
	if p.goes && p.calls == 0 {
		p.down = true
		return api.ErrDown
	}
	if e == api.OK {
		p.calls--
	}
	return e
}

func (p *plainDisk) Write(n int, data string) api.Errno {
	e := api.OK
	if p.no(n) {
		e = api.ErrSector
	} else if len(data) != 1024 {
		e = api.ErrSize
	}
	if e = p.counted(e); e == api.OK {
		p.open = append(slices.Clone(p.open), plainWrite{n, data})
	}
	return e
}

func (p *plainDisk) Flush() api.Errno {
	e := p.counted(api.OK)
	if e == api.OK {
		ones := make([]int, len(p.open))
		for i := range ones {
			ones[i] = 1
		}
		p.flushed, p.open = p.Crash(ones).flushed, nil
	}
	return e
}

func (p *plainDisk) Power(calls int) {
	if !p.down {
		p.goes, p.calls = calls >= 0, calls
	}
}

func (p *plainDisk) Crash(fates []int) *plainDisk {
	c := &plainDisk{flushed: slices.Clone(p.flushed)}
	for i, w := range p.open {
		fate := 0
		if i < len(fates) {
			fate = fates[i]
		}
		bytes := []byte(c.flushed[w.n])
		for k := range bytes {
			if fate == 1 || fate > 1 && k < fate%1024 {
				bytes[k] = w.data[k]
			}
		}
		c.flushed[w.n] = string(bytes)
	}
	return c
}

func (p *plainDisk) Copy() *plainDisk {
	c := *p
	return &c
}

// same asks whether a disk is like the plain one, as far as calls that change nothing tell.
func same(t *testing.T, what string, d *disk.Disk, p *plainDisk) bool {
	t.Helper()
	if d.Sectors() != len(p.flushed) || d.Open() != len(p.open) || d.Down() != p.down {
		t.Errorf("%s: %d sectors, %d open, down %v; want %d, %d, %v", what, d.Sectors(), d.Open(), d.Down(), len(p.flushed), len(p.open), p.down)
		return false
	}
	for n := -1; n <= len(p.flushed); n++ {
		s, e := d.Read(n)
		if w, we := p.Read(n); s != w || e != we {
			t.Errorf("%s: Read(%d): error %d, begins %.5q; want %d, %.5q", what, n, e, s, we, w)
			return false
		}
	}
	return true
}

// sameWhole asks it of what any later call could bring to light, too.
func sameWhole(t *testing.T, what string, d *disk.Disk, p *plainDisk) bool {
	t.Helper()
	if !same(t, what, d, p) {
		return false
	}
	for fate := range 3 {
		for one := range p.open {
			fates := slices.Repeat([]int{fate % 2}, one)
			fates = append(fates, []int{1, 0, 514}[fate])
			if !same(t, what+", crashed", d.Crash(fates), p.Crash(fates)) {
				return false
			}
		}
	}
	c, q := d.Copy(), p.Copy()
	for i := range 12 {
		if e, w := c.Flush(), q.Flush(); e != w {
			t.Errorf("%s: flush %d of a copy: %d, want %d", what, i, e, w)
			return false
		}
	}
	return same(t, what+", copied and flushed", c, q)
}

func TestNew(t *testing.T) {
	for _, n := range []int{math.MinInt, -4096, -1, 0, 4097, 8192, 1 << 32, 1<<32 + 1, math.MaxInt} {
		if d, e := disk.New(n); d != nil || e != api.ErrArg {
			t.Errorf("P3.1: New(%d): %v, error %d", n, d, e)
		}
	}
	for _, n := range []int{1, 2, 3, 1000, 4095, 4096} {
		d := made(t, n)
		if d.Sectors() != n {
			t.Errorf("P3.1: New(%d) has %d sectors", n, d.Sectors())
		}
		same(t, "P3.1: a new disk", d, plainNew(n))
		wants(t, "P3.1: the first and the last sector", []api.Errno{0, 0, 0}, d.Write(0, as), d.Write(n-1, bs), d.Flush())
		wants(t, "P3.1: beside them", []api.Errno{api.ErrSector, api.ErrSector}, d.Write(-1, as), d.Write(n, bs))
		if s, e := d.Read(n - 1); s != bs || e != api.OK {
			t.Errorf("P3.1: the last of %d sectors: error %d, begins %.5q", n, e, s)
		}
	}
}

func TestPowerStaysAtFirst(t *testing.T) {
	d := made(t, 1)
	for i := range 70000 {
		if d.Write(0, as) != api.OK || i%100 == 0 && d.Flush() != api.OK {
			t.Fatal("P3.1: the power of a new disk went at", i)
		}
	}
	is(t, "P3.1: a power that stays", d, 99, false)
}

func TestExamples(t *testing.T) {
	d := made(t, 2)
	wants(t, "P3.1: Write", []api.Errno{0}, d.Write(0, as))
	has(t, "P3.1: Crash of [0]", d.Crash([]int{0}), zeros, zeros)
	has(t, "P3.1: Crash of [1]", d.Crash([]int{1}), as, zeros)
	has(t, "P3.1: Crash of [1026]", d.Crash([]int{1026}), "aa"+zeros[2:], zeros)
}

func TestReadErrors(t *testing.T) {
	d := made(t, 3)
	d.Write(2, as)
	for _, n := range []int{math.MinInt, -1, 3, 4096, math.MaxInt} {
		if s, e := d.Read(n); s != "" || e != api.ErrSector {
			t.Errorf("P3.1, P0.2: Read(%d): error %d, %d bytes", n, e, len(s))
		}
	}
	d.Power(0)
	has(t, "P3.1: a power that goes at the next write is there for reads", d, zeros, zeros, as)
	d.Flush()
	for _, n := range []int{math.MinInt, -1, 0, 2, 3, math.MaxInt} {
		if s, e := d.Read(n); s != "" || e != api.ErrDown {
			t.Errorf("P3.1, P0.2: Read(%d) of a disk that is down: error %d, %d bytes", n, e, len(s))
		}
	}
}

func TestReadsCountAsNoCalls(t *testing.T) {
	d := made(t, 1)
	d.Power(1)
	for range 9 {
		has(t, "P3.1: reads", d, zeros)
		d.Read(7)
		d.Open()
		d.Down()
		d.Sectors()
		d.Copy().Flush()
		d.Crash(nil).Flush()
	}
	wants(t, "P3.1: a call is left behind reads", []api.Errno{0, api.ErrDown}, d.Write(0, as), d.Write(0, as))
}

func TestWriteErrors(t *testing.T) {
	long := strings.Repeat("x", 1<<20)
	wrong := []struct {
		n    int
		data string
		want api.Errno
	}{
		{-1, as, api.ErrSector},
		{3, as, api.ErrSector},
		{math.MinInt, as, api.ErrSector},
		{math.MaxInt, as, api.ErrSector},
		{-1, "", api.ErrSector},
		{3, "x", api.ErrSector},
		{0, "", api.ErrSize},
		{0, "x", api.ErrSize},
		{2, as[1:], api.ErrSize},
		{2, as + "a", api.ErrSize},
		{1, as + as, api.ErrSize},
		{1, long, api.ErrSize},
	}
	for _, w := range wrong {
		d := made(t, 3)
		d.Write(1, bs)
		wants(t, "P3.1: a write that may not be", []api.Errno{w.want}, d.Write(w.n, w.data))
		is(t, "P3.1: it isn't open", d, 1, false)
		has(t, "P3.1: nothing is written by it", d, zeros, bs, zeros)

		d.Power(2)
		for range 5 {
			wants(t, "P3.1: it counts as no call", []api.Errno{w.want}, d.Write(w.n, w.data))
		}
		wants(t, "P3.1: two calls are left", []api.Errno{0, w.want, 0}, d.Write(0, as), d.Write(w.n, w.data), d.Flush())
		is(t, "P3.1: they are done", d, 0, false)
		wants(t, "P3.1: ErrDown is named first where the power goes now", []api.Errno{api.ErrDown}, d.Write(w.n, w.data))
		is(t, "P3.1: it went", d, 0, true)
		wants(t, "P3.1: ErrDown is named first where it is gone", []api.Errno{api.ErrDown}, d.Write(w.n, w.data))
	}
}

func TestReadsSeeOpenWrites(t *testing.T) {
	d := made(t, 3)
	d.Write(1, as)
	has(t, "P3.1: an open write", d, zeros, as, zeros)
	d.Write(1, bs)
	d.Write(2, cs)
	has(t, "P3.1: the last one of two", d, zeros, bs, cs)
	d.Flush()
	has(t, "P3.1: behind a flush", d, zeros, bs, cs)
	d.Write(1, as)
	has(t, "P3.1: an open write above a flushed one", d, zeros, as, cs)
	d.Write(2, zeros)
	has(t, "P3.1: zeros are bytes as others are", d, zeros, as, zeros)
	d.Flush()
	has(t, "P3.1: behind another flush", d, zeros, as, zeros)
	has(t, "P3.2: and a crash", d.Crash(nil), zeros, as, zeros)
}

func TestOpen(t *testing.T) {
	d := made(t, 3)
	is(t, "P3.1: a new disk", d, 0, false)
	for i := range 7 {
		d.Write(i%2, as)
		is(t, "P3.1: writes to the same sectors are open each", d, i+1, false)
	}
	wants(t, "P3.1: Flush", []api.Errno{0}, d.Flush())
	is(t, "P3.1: behind a flush", d, 0, false)
	wants(t, "P3.1: Flush of nothing", []api.Errno{0}, d.Flush())
	is(t, "P3.1: behind another one", d, 0, false)
	d.Write(0, as)
	is(t, "P3.1: the same bytes again", d, 1, false)
}

func TestPowerGoesBehindCalls(t *testing.T) {
	for calls := range 6 {
		for flushAt := -1; flushAt < 8; flushAt++ {
			d := made(t, 2)
			d.Write(0, cs)
			d.Power(calls)
			is(t, "P3.1: a power that is told to go", d, 1, false)
			for i := range 8 {
				got, want := api.OK, api.OK
				if i == flushAt {
					got = d.Flush()
				} else {
					got = d.Write(1, as)
				}
				if i >= calls {
					want = api.ErrDown
				}
				if got != want || d.Down() != (i >= calls) {
					t.Fatalf("P3.1: Power(%d): call %d: error %d, down %v", calls, i, got, d.Down())
				}
			}
		}
	}
}

func TestPowerToldAgain(t *testing.T) {
	d := made(t, 1)
	d.Power(0)
	d.Power(2)
	wants(t, "P3.1: more calls than were told first", []api.Errno{0}, d.Write(0, as))
	d.Power(2)
	wants(t, "P3.1: counted from the last time on", []api.Errno{0, 0}, d.Write(0, bs), d.Flush())
	d.Power(-1)
	for range 9 {
		wants(t, "P3.1: below 0 it stays", []api.Errno{0, 0}, d.Write(0, cs), d.Flush())
	}
	d.Power(math.MaxInt)
	wants(t, "P3.1: many calls", []api.Errno{0, 0}, d.Write(0, cs), d.Flush())
	for _, calls := range []int{-1, -2, -3, -1024, math.MinInt} {
		d.Power(0)
		d.Power(calls)
		is(t, "P3.1: below 0 it isn't gone", d, 0, false)
		wants(t, "P3.1: below 0 it stays", []api.Errno{0, 0}, d.Write(0, cs), d.Flush())
	}
	d.Power(3)
	d.Power(0)
	is(t, "P3.1: it goes at a call", d, 0, false)
	wants(t, "P3.1: fewer calls than were told first", []api.Errno{api.ErrDown}, d.Flush())
	is(t, "P3.1: it went", d, 0, true)
}

func TestPowerIsNotBroughtBack(t *testing.T) {
	for _, calls := range []int{math.MinInt, -2, -1, 0, 1, 2, 5, math.MaxInt} {
		d := made(t, 1)
		d.Write(0, as)
		d.Power(0)
		wants(t, "P3.1: the power goes", []api.Errno{api.ErrDown}, d.Flush())
		d.Power(calls)
		is(t, "P3.1: told to a disk that is down", d, 1, true)
		wants(t, "P3.1: it isn't brought back", []api.Errno{api.ErrDown, api.ErrDown, api.ErrDown}, d.Write(0, bs), d.Flush(), d.Copy().Flush())
		if s, e := d.Read(0); s != "" || e != api.ErrDown {
			t.Error("P3.1: Read of a disk that is down", e)
		}
		has(t, "P3.3: all of it is as it was", d.Crash(nil), zeros)
		has(t, "P3.3: all of it is as it was", d.Crash([]int{1, 1}), as)
	}
}

func TestNothingIsWrittenWithoutPower(t *testing.T) {
	for _, last := range []string{"write", "flush", "wrong sector", "wrong size"} {
		d, p := made(t, 2), plainNew(2)
		d.Write(0, as)
		d.Flush()
		d.Write(0, bs)
		d.Write(1, cs)
		p.flushed[0], p.open = as, []plainWrite{{0, bs}, {1, cs}}
		d.Power(0)
		switch last {
		case "write":
			d.Write(1, as)
		case "flush":
			d.Flush()
		case "wrong sector":
			d.Write(9, as)
		case "wrong size":
			d.Write(0, "x")
		}
		p.down = true
		sameWhole(t, "P3.3: the power went at a "+last, d, p)
		for range 3 {
			wants(t, "P3.3: from then on", []api.Errno{api.ErrDown, api.ErrDown}, d.Write(1, as), d.Flush())
		}
		sameWhole(t, "P3.3: behind a "+last+" and further calls", d, p)
	}
}

func TestFateOfOneWrite(t *testing.T) {
	text := make([]byte, 1024)
	for i := range text {
		text[i] = byte(i%251 + 1)
	}
	d := made(t, 2)
	d.Write(0, bs)
	d.Write(1, cs)
	d.Flush()
	d.Write(0, string(text))
	asked := []int{math.MinInt, math.MinInt + 1, -1 << 32, math.MaxInt, math.MaxInt - 1, math.MaxInt - 1023, 1 << 32, 1<<32 + 1, 1<<32 + 7}
	for fate := -1030; fate < 4200; fate++ {
		asked = append(asked, fate)
	}
	for _, fate := range asked {
		want := bs
		if fate == 1 {
			want = string(text)
		} else if fate > 1 {
			want = string(text[:fate%1024]) + bs[fate%1024:]
		}
		c := d.Crash([]int{fate})
		if s, e := c.Read(0); e != api.OK || s != want {
			t.Errorf("P3.1: a fate of %d: error %d", fate, e)
		}
		if s, e := c.Read(1); e != api.OK || s != cs {
			t.Errorf("P3.2: a fate of %d: a sector that no open write named: error %d", fate, e)
		}
		is(t, "P3.1: what is left", c, 0, false)
	}
	is(t, "P3.1: the disk is as it was", d, 1, false)
	has(t, "P3.1: the disk is as it was", d, string(text), cs)
}

func TestFatesInTheirOrder(t *testing.T) {
	d := made(t, 3)
	d.Write(0, as)
	d.Write(1, bs)
	d.Write(0, bs)
	d.Write(0, cs)
	rows := []struct {
		fates    []int
		at0, at1 string
	}{
		{nil, zeros, zeros},
		{[]int{}, zeros, zeros},
		{[]int{1}, as, zeros},
		{[]int{1, 1, 1, 1}, cs, bs},
		{[]int{1, 1, 1, 0}, bs, bs},
		{[]int{1, 1, 1}, bs, bs},
		{[]int{1, 0, 0, 0, 1, 1, 1}, as, zeros},
		{[]int{0, 1, 0, 0}, zeros, bs},
		{[]int{0, 0, 0, 1}, cs, zeros},
		{[]int{5, 0, 3, 2}, "ccbaa" + zeros[5:], zeros},
		{[]int{2, 0, 3, 5}, "ccccc" + zeros[5:], zeros},
		{[]int{1, 1023, 1026, 1025}, "cb" + as[2:], bs[1:] + "\x00"},
		{[]int{1, 1024, 2048, 1 << 40}, as, zeros},
		{[]int{1023, -1, 1, -1024}, bs, zeros},
		{[]int{-7, 1025, 2047, 4}, "cccc" + bs[5:] + "\x00", "b" + zeros[1:]},
	}
	for _, r := range rows {
		c := d.Crash(r.fates)
		has(t, "P3.1: writes to one sector, by their fates", c, r.at0, r.at1, zeros)
		is(t, "P3.1: what is left", c, 0, false)
	}
	is(t, "P3.1: the disk is as it was", d, 4, false)
	has(t, "P3.1: the disk is as it was", d, cs, bs, zeros)
}

func TestFlushedIsThereBehindAnyCrash(t *testing.T) {
	for _, fates := range [][]int{nil, {0}, {1}, {0, 0, 0}, {1, 1, 1}, {7, 7, 7}, {-1, 1024, math.MaxInt}} {
		d := made(t, 3)
		d.Write(0, cs)
		d.Write(0, as)
		d.Write(1, bs)
		d.Flush()
		has(t, "P3.2: nothing is open", d.Crash(fates), as, bs, zeros)
		d.Write(2, cs)
		d.Write(2, as)
		c := d.Crash(fates)
		has(t, "P3.2: something else is open", c, as, bs)
		c.Write(0, cs)
		has(t, "P3.2: a crash of what a crash left", c.Crash(nil), as, bs)
	}
}

// TestBytesBehindCrash holds crashes against what P3.2 says of bytes, without any words on fates.
func TestBytesBehindCrash(t *testing.T) {
	const sectors = 4
	next := numbers(11)
	text := func() string {
		b := make([]byte, 1024)
		for i := range b {
			b[i] = byte(next(256))
		}
		return string(b)
	}
	for range 60 {
		d := made(t, sectors)
		var may [sectors][]string
		for n := range sectors {
			may[n] = []string{zeros}
			if next(3) > 0 {
				s := text()
				d.Write(n, s)
				may[n] = []string{s}
			}
		}
		d.Flush()
		var fates []int
		for range next(7) {
			n, s := next(sectors), text()
			d.Write(n, s)
			may[n] = append(may[n], s)
			fates = append(fates, next(3000)-300)
		}
		c := d.Crash(fates)
		for n, texts := range may {
			got, _ := c.Read(n)
			if len(got) != 1024 || len(texts) == 1 && got != texts[0] {
				t.Fatal("P3.2: a sector that no open write named isn't as it was flushed")
			}
			for i := range got {
				if !slices.ContainsFunc(texts, func(s string) bool { return s[i] == got[i] }) {
					t.Fatal("P3.2: a byte that was never written at its place", n, i)
				}
			}
		}
	}
}

func TestCopyKeepsAll(t *testing.T) {
	d := made(t, 2)
	d.Write(0, as)
	d.Flush()
	d.Write(0, bs)
	d.Write(1, cs)
	d.Write(0, cs)
	p := &plainDisk{flushed: []string{as, zeros}, open: []plainWrite{{0, bs}, {1, cs}, {0, cs}}}
	sameWhole(t, "P3.1: a copy with open writes", d.Copy(), p)
	d.Power(2)
	p.Power(2)
	sameWhole(t, "P3.1: a copy has the calls that are left", d.Copy(), p)
	d.Copy().Write(1, as)
	d.Crash(nil).Write(1, as)
	wants(t, "P3.4: what its others do counts as none of its calls", []api.Errno{0, 0}, d.Write(1, bs), p.Write(1, bs))
	sameWhole(t, "P3.1: a copy has the calls that are left now", d.Copy(), p)
	d.Power(0)
	p.Power(0)
	sameWhole(t, "P3.1: a copy of a disk whose power goes at the next call", d.Copy(), p)
	is(t, "P3.4: its power is its own", d, 4, false)
	d.Flush()
	p.Flush()
	sameWhole(t, "P3.1: a copy of a disk that is down", d.Copy(), p)
	is(t, "P3.1: a copy of a disk that is down", d.Copy(), 4, true)
	sameWhole(t, "P3.1: a copy of a copy", d.Copy().Copy(), p)
}

func TestCrashKeepsWhatIsLeft(t *testing.T) {
	for _, power := range []int{-1, 0, 3} {
		d := made(t, 2)
		d.Write(0, as)
		d.Flush()
		d.Write(0, bs)
		d.Write(1, cs)
		d.Power(power)
		if power == 0 {
			d.Write(1, as)
		}
		open := d.Open()
		c := d.Crash([]int{0, 1})
		is(t, "P3.1: what is left", c, 0, false)
		has(t, "P3.1: what is left", c, as, cs)
		for range 5 {
			wants(t, "P3.1: its power stays", []api.Errno{0, 0}, c.Write(0, cs), c.Flush())
		}
		is(t, "P3.4: the disk is as it was", d, open, power == 0)
		has(t, "P3.4: the disk is as it was", d.Crash([]int{1, 1}), bs, cs)
		has(t, "P3.4: the disk is as it was", d.Crash(nil), as, zeros)
		c.Power(0)
		c.Flush()
		is(t, "P3.4: its power is its own", d, open, power == 0)
	}
}

func TestDisksOfTheirOwn(t *testing.T) {
	ways := []func(d *disk.Disk) *disk.Disk{
		func(d *disk.Disk) *disk.Disk { return d.Copy() },
		func(d *disk.Disk) *disk.Disk { return d.Crash([]int{1, 1}) },
		func(d *disk.Disk) *disk.Disk { return d.Copy().Copy() },
		func(d *disk.Disk) *disk.Disk { return d.Copy().Crash([]int{1, 1}) },
		func(d *disk.Disk) *disk.Disk { return d.Crash([]int{1, 1}).Copy() },
	}
	for i, way := range ways {
		for _, there := range []bool{true, false} {
			d := made(t, 3)
			d.Write(0, as)
			d.Flush()
			d.Write(1, bs)
			d.Write(2, bs)
			one, other := d, way(d)
			if there {
				one, other = other, one
			}
			open := other.Open()
			one.Write(0, cs)
			one.Write(1, cs)
			has(t, "P3.4: writes of another one aren't seen", other, as, bs, bs)
			one.Flush()
			has(t, "P3.4: flushes of another one aren't seen", other, as, bs, bs)
			has(t, "P3.4: flushes of another one aren't seen behind a crash", other.Crash([]int{1, 1}), as, bs, bs)
			one.Power(0)
			one.Flush()
			is(t, "P3.4: another one's power", other, open, false)
			other.Write(2, as)
			has(t, "P3.4: what is open is its own", one.Crash([]int{1, 1, 1}), cs, cs, bs)
			is(t, "P3.4: what is open is its own", other, open+1, false)
			if t.Failed() {
				t.Fatal("disks of the way", i, "there", there)
			}
		}
	}
}

// TestOpenWritesOfCopies asks whether open writes that are appended behind a copy come in each other's place.
func TestOpenWritesOfCopies(t *testing.T) {
	for ahead := range 9 {
		d := made(t, 1)
		for range ahead {
			d.Write(0, cs)
		}
		c := d.Copy()
		d.Write(0, as)
		c.Write(0, bs)
		fates := make([]int, ahead+1)
		fates[ahead] = 1
		has(t, "P3.4: the disk's last write", d.Crash(fates), as)
		has(t, "P3.4: the copy's last write", c.Crash(fates), bs)
	}
}

func TestNilDisk(t *testing.T) {
	var d *disk.Disk
	for _, n := range []int{math.MinInt, -1, 0, 1, math.MaxInt} {
		if s, e := d.Read(n); s != "" || e != api.ErrNil {
			t.Error("P3.1: Read of a nil disk", e)
		}
		d.Power(n)
		wants(t, "P3.1: of a nil disk", []api.Errno{api.ErrNil, api.ErrNil, api.ErrNil}, d.Write(n, as), d.Write(n, ""), d.Flush())
		if d.Crash([]int{n}) != nil {
			t.Error("P3.1: Crash of a nil disk")
		}
	}
	if d.Sectors() != 0 || d.Open() != 0 || !d.Down() || d.Crash(nil) != nil || d.Copy() != nil {
		t.Error("P3.1: a nil disk")
	}
}

func TestFatesAreNotChangedNorKept(t *testing.T) {
	room := []int{1, 2, 1026, 77, 88}
	was := slices.Clone(room)
	d := made(t, 1)
	for range 5 {
		d.Write(0, as)
	}
	c := d.Crash(room[:3])
	if !slices.Equal(room, was) {
		t.Error("P0.3: fates were changed", room)
	}
	clear(room)
	has(t, "P0.3: fates were kept", c, as)
	none := d.Crash(room[:0])
	room[0] = 1
	has(t, "P0.3: the room behind the fates was looked at", none, zeros)
}

func TestTextsAreMemoryOfTheirOwn(t *testing.T) {
	room := []byte(as + as)
	d := made(t, 2)
	d.Write(0, unsafe.String(&room[512], 1024))
	d.Flush()
	d.Write(1, unsafe.String(&room[0], 1024))
	clear(room)
	has(t, "P0.3: what was handed in is kept", d, as, as)
	has(t, "P0.3: what was handed in is kept", d.Crash([]int{1}), as, as)

	for n := range 2 {
		s, _ := d.Read(n)
		clear(unsafe.Slice(unsafe.StringData(s), len(s)))
	}
	has(t, "P0.3: what was answered is kept", d, as, as)
	c := d.Crash([]int{1})
	for n := range 2 {
		s, _ := c.Read(n)
		clear(unsafe.Slice(unsafe.StringData(s), len(s)))
	}
	has(t, "P0.3: what was answered of another disk is kept", d, as, as)
	has(t, "P0.3: what was answered is kept", c, as, as)

	e := made(t, 2)
	first, _ := e.Read(0)
	unsafe.Slice(unsafe.StringData(first), len(first))[3] = 'x'
	has(t, "P0.3: zeros that were answered are kept", e, zeros, zeros)
}

// TestAllShortRows goes through all rows of six calls, with the power gone at each place.
func TestAllShortRows(t *testing.T) {
	const kinds, calls = 5, 6
	rows := 1
	for range calls {
		rows *= kinds
	}
	for row := range rows {
		for power := -1; power <= 3; power++ {
			d, p := made(t, 2), plainNew(2)
			d.Power(power)
			p.Power(power)
			for i, rest := 0, row; i < calls; i, rest = i+1, rest/kinds {
				if e, w := plainCall(d, rest%kinds), plainCall(p, rest%kinds); e != w {
					t.Fatalf("P3.1: row %d, Power(%d), call %d: %d, want %d", row, power, i, e, w)
				}
			}
			fates := []int{row % 4, row % 3, row % 5, 1, 514}
			if !same(t, "P3.1: a short row", d, p) || !same(t, "P3.2: a short row, crashed", d.Crash(fates), p.Crash(fates)) {
				t.Fatal("row", row, "Power", power)
			}
		}
	}
}

// plainCall does one of a few calls.
func plainCall(d interface {
	Write(n int, data string) api.Errno
	Flush() api.Errno
}, kind int) api.Errno {
	switch kind {
	case 0:
		return d.Write(0, as)
	case 1:
		return d.Write(0, bs)
	case 2:
		return d.Write(1, cs)
	case 3:
		return d.Write(2, as)
	}
	return d.Flush()
}

// pair is a disk, and the plain one that it should be like.
type pair struct {
	d *disk.Disk
	p *plainDisk
}

// step does something with one of the pairs, and answers whether both say the same; some steps add a pair.
func step(pairs []pair, next func(int) int) ([]pair, bool) {
	one := pairs[next(len(pairs))]
	d, p := one.d, one.p
	switch kind := next(20); {
	case kind < 8:
		n, data := next(d.Sectors()), []string{as, bs, cs, as[:512] + bs[512:]}[next(4)]
		if next(8) == 0 {
			n = []int{-1, d.Sectors(), math.MaxInt, math.MinInt}[next(4)]
		}
		if next(8) == 0 {
			data = data[:next(1024)]
		}
		return pairs, d.Write(n, data) == p.Write(n, data)
	case kind < 12:
		return pairs, d.Flush() == p.Flush()
	case kind < 14:
		calls := next(12) - 2
		d.Power(calls)
		p.Power(calls)
		return pairs, true
	case kind < 17:
		var fates []int
		for range next(len(p.open) + 2) {
			fates = append(fates, []int{0, 1, -next(2000), next(5), next(5000), 1024 * next(9)}[next(6)])
		}
		return append(pairs, pair{d.Crash(fates), p.Crash(fates)}), true
	}
	return append(pairs, pair{d.Copy(), p.Copy()}), true
}

func TestAnyCallsInAnyOrder(t *testing.T) {
	for seed := range uint64(150) {
		next := numbers(seed*7919 + 1)
		sectors := 1 + next(4)
		pairs := []pair{{made(t, sectors), plainNew(sectors)}}
		for i := range 120 {
			var ok bool
			if pairs, ok = step(pairs, next); !ok {
				t.Fatal("P3.1: another answer: seed", seed, "step", i)
			}
			if len(pairs) > 5 {
				pairs = slices.Delete(pairs, 0, 2)
			}
			for _, one := range pairs {
				if !same(t, "P3.1, P3.4: behind any calls", one.d, one.p) {
					t.Fatal("seed", seed, "step", i)
				}
			}
		}
		for _, one := range pairs {
			if !sameWhole(t, "P3.1, P3.4: in the end", one.d, one.p) {
				t.Fatal("seed", seed)
			}
		}
	}
}

// TestSameCallsSameAnswers does the same twice: what comes out hangs on nothing else.
func TestSameCallsSameAnswers(t *testing.T) {
	told := func() string {
		next := numbers(5)
		d := made(t, 64)
		var all strings.Builder
		for range 400 {
			d.Write(next(64), strings.Repeat(string(rune('a'+next(26))), 1024))
			if next(60) == 0 {
				d.Flush()
			}
		}
		fates := make([]int, d.Open())
		for i := range fates {
			fates[i] = next(2100) - 20
		}
		c := d.Crash(fates)
		for n := range 64 {
			s, _ := c.Read(n)
			all.WriteString(s)
		}
		return all.String()
	}
	first := told()
	for range 5 {
		if told() != first {
			t.Fatal("P0.5: the same calls, another answer")
		}
	}
}
