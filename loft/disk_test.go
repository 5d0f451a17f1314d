package loft_test

import (
	"bytes"
	"math/rand/v2"
	"slices"
	"testing"

	"strickle/api"
	"strickle/loft"
)

// plate is a disk as the chapter says.
type plate struct {
	sectors int
	durable map[int][64]byte
	// pending are the writes that are not durable, with their sectors.
	pending [][64]byte
	places  []int
	// power is how many calls it lasts for: -1 for all.
	power int
	down  bool
}

func newPlate(sectors int) *plate {
	return &plate{sectors: sectors, durable: map[int][64]byte{}, power: -1}
}

// read returns a sector.
func (p *plate) read(sector int) ([]byte, errno) {
	switch {
	case p.down:
		return nil, api.ErrDown
	case sector < 0 || sector >= p.sectors:
		return nil, api.ErrArg
	}
	b := p.durable[sector]
	for i, at := range p.places {
		if at == sector {
			b = p.pending[i]
		}
	}
	return b[:], api.OK
}

// fails reports whether the power fails at a call.
func (p *plate) fails() bool {
	if p.power == 0 {
		p.down = true
		return true
	}
	if p.power > 0 {
		p.power--
	}
	return false
}

func (p *plate) write(sector int, b []byte) errno {
	switch {
	case p.down:
		return api.ErrDown
	case sector < 0 || sector >= p.sectors:
		return api.ErrArg
	case len(b) > 64:
		return api.ErrLimit
	case p.fails():
		return api.ErrDown
	}
	var whole [64]byte
	copy(whole[:], b)
	p.pending, p.places = append(p.pending, whole), append(p.places, sector)
	return api.OK
}

// happen makes so much of each pending write happen.
func (p *plate) happen(kept func(i int) int) {
	for i, at := range p.places {
		b := p.durable[at]
		for j := range max(0, min(64, kept(i))) {
			b[j] = p.pending[i][j]
		}
		p.durable[at] = b
	}
	p.pending, p.places = nil, nil
}

func (p *plate) flush() errno {
	if p.down || p.fails() {
		return api.ErrDown
	}
	p.happen(func(int) int { return 64 })
	return api.OK
}

func (p *plate) stop(calls int) errno {
	switch {
	case p.down:
		return api.ErrDown
	case calls < 0:
		return api.ErrArg
	}
	p.power = calls
	return api.OK
}

func (p *plate) crash(keep []int) {
	p.happen(func(i int) int {
		if i < len(keep) {
			return keep[i]
		}
		return 0
	})
	p.power, p.down = -1, false
}

// I1: disks have from 64 to 65536 sectors of 64 zeros.
func TestI1NewDisk(t *testing.T) {
	for sectors, e := range map[int]errno{-1: api.ErrArg, 0: api.ErrArg, 63: api.ErrArg, 64: api.OK, 65: api.OK, 65536: api.OK, 65537: api.ErrArg, 1 << 60: api.ErrArg} {
		d, f := loft.NewDisk(sectors)
		if f != e || (d == nil) != (e != api.OK) {
			t.Fatalf("NewDisk(%d): %v, error %d", sectors, d, f)
		}
		if d == nil {
			continue
		}
		for sector, e := range map[int]errno{-1: api.ErrArg, 0: api.OK, sectors - 1: api.OK, sectors: api.ErrArg} {
			if b, f := d.Read(sector); f != e || e == api.OK && !bytes.Equal(b, make([]byte, 64)) || e != api.OK && len(b) > 0 {
				t.Errorf("Read(%d) of %d: %v, error %d", sector, sectors, b, f)
			}
			if f := d.Write(sector, nil); f != e {
				t.Errorf("Write(%d) of %d: error %d", sector, sectors, f)
			}
		}
		if d.Down() {
			t.Errorf("a disk of %d sectors is down at first", sectors)
		}
	}
}

// I1 to I3 with rule R5: a nil disk.
func TestI3NilDisk(t *testing.T) {
	var d *loft.Disk
	b, e := d.Read(0)
	if len(b) > 0 || e != api.ErrNil || d.Write(0, nil) != api.ErrNil || d.Flush() != api.ErrNil || d.Stop(-1) != api.ErrNil || !d.Down() {
		t.Errorf("a nil disk: %v, %d, %d, %d, %d, %v", b, e, d.Write(0, nil), d.Flush(), d.Stop(-1), d.Down())
	}
	d.Crash([]int{1})
}

// I1 to I3, P9.2: disks are as the chapter says, whatever is called.
func TestI3Disks(t *testing.T) {
	r := rand.New(rand.NewPCG(9, 1))
	torn, failed := 0, 0
	for range 300 {
		d, p := disk(64), newPlate(64)
		for range 200 {
			sector := []int{0, 1, 2, 63, 64, -1}[r.IntN(6)]
			var e, f errno
			switch n := r.IntN(12); {
			case n < 6:
				b := make([]byte, []int{0, 1, 5, 63, 64, 65, 200}[r.IntN(7)])
				for i := range b {
					b[i] = byte(r.IntN(256))
				}
				e, f = p.write(sector, b), d.Write(sector, slices.Clone(b))
			case n < 8:
				e, f = p.flush(), d.Flush()
			case n < 9:
				calls := r.IntN(8) - 1
				e, f = p.stop(calls), d.Stop(calls)
			case n < 10 || p.down:
				l := keeps(r)[:0]
				for range r.IntN(12) {
					l = append(l, []int{64, 0, r.IntN(65), r.IntN(65), 65, -1}[r.IntN(6)])
				}
				torn += len(p.pending)
				p.crash(l)
				d.Crash(l)
			}
			if e != f || p.down != d.Down() {
				t.Fatalf("error %d, want %d; down %v, want %v", f, e, d.Down(), p.down)
			}
			if e == api.ErrDown {
				failed++
			}
			for _, sector := range []int{0, 1, 2, 63, sector} {
				a, e := p.read(sector)
				b, f := d.Read(sector)
				if !bytes.Equal(a, b) || e != f {
					t.Fatalf("Read(%d): %v, error %d, want %v, error %d", sector, b, f, a, e)
				}
			}
		}
	}
	if torn < 1000 || failed < 1000 {
		t.Errorf("only %d writes were torn, %d calls failed", torn, failed)
	}
}

// I2, I3: errors are returned in the chapter's order, and calls that return them use up no power.
func TestI2Errors(t *testing.T) {
	long := make([]byte, 65)
	d := disk(64)
	d.Stop(1)
	for _, c := range []struct {
		sector int
		b      []byte
		e      errno
	}{{-1, long, api.ErrArg}, {64, nil, api.ErrArg}, {0, long, api.ErrLimit}, {63, long[:64], api.OK}, {-1, long, api.ErrArg}, {0, long, api.ErrLimit}, {0, nil, api.ErrDown}, {-1, long, api.ErrDown}, {0, long, api.ErrDown}} {
		if e := d.Write(c.sector, c.b); e != c.e {
			t.Errorf("Write(%d) of %d bytes: error %d, want %d", c.sector, len(c.b), e, c.e)
		}
	}
	if b, e := d.Read(-1); len(b) > 0 || e != api.ErrDown {
		t.Errorf("Read: %v, error %d", b, e)
	}
	if e := d.Stop(-1); e != api.ErrDown || d.Flush() != api.ErrDown || !d.Down() {
		t.Errorf("Stop: error %d; down: %v", e, d.Down())
	}
	d.Crash(nil)
	if d.Stop(-1) != api.ErrArg || d.Down() || d.Flush() != api.OK {
		t.Errorf("behind a crash the disk is down: %v", d.Down())
	}
	d.Stop(0)
	d.Stop(2)
	if d.Flush() != api.OK || d.Flush() != api.OK || d.Flush() != api.ErrDown {
		t.Errorf("a later Stop does not replace the one before")
	}
}

// P9.2: a crash changes no sector that was not written since it was made durable.
func TestP92(t *testing.T) {
	d := disk(64)
	d.Write(3, []byte("durable"))
	d.Write(4, []byte("durable"))
	d.Flush()
	d.Write(4, []byte("PENDING AND LONGER"))
	d.Write(5, []byte("pending"))
	d.Crash([]int{3, 64})
	for sector, want := range map[int]string{3: "durable", 4: "PENable", 5: "pending", 6: ""} {
		b, e := d.Read(sector)
		if got := string(bytes.TrimRight(b, "\x00")); got != want || e != api.OK {
			t.Errorf("Read(%d): %q, error %d, want %q", sector, got, e, want)
		}
	}
	// What is behind the bytes of a write are zeros, and those are kept, too.
	d.Write(3, []byte("x"))
	d.Crash([]int{64})
	if b, _ := d.Read(3); b[0] != 'x' || b[1] != 0 {
		t.Errorf("Read(3): %q", b)
	}
}

// I1, I2 with rule R3: a disk shares no memory.
func TestI2Memory(t *testing.T) {
	d := disk(64)
	b, whole := behind([]byte("text"), 'x')
	d.Write(0, b)
	if string(whole) != "textxx" {
		t.Errorf("the argument is %q now", whole)
	}
	overwrite(b, 'y')
	l, _ := d.Read(0)
	if string(l[:5]) != "text\x00" {
		t.Errorf("Read: %q", l)
	}
	for range 2 {
		l, _ = d.Read(0)
		overwrite(l, 'z')
		d.Flush()
	}
	keep, all := behind([]int{1, 2}, 3)
	d.Write(0, []byte("more"))
	d.Crash(keep)
	if l, _ = d.Read(0); string(l[:5]) != "mext\x00" || !slices.Equal(all, []int{1, 2, 3, 3}) {
		t.Errorf("Read: %q; the argument is %v now", l, all)
	}
}
