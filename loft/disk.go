package loft

import "strickle/api"

// sector is what a sector contains.
type sector [api.SectorSize]byte

// write is a write of a sector.
type write struct {
	at int
	to sector
}

// Disk is a disk of sectors.
type Disk struct {
	durable []sector
	// pending are the writes that are not durable yet, in their order, and shown is what they leave in their sectors.
	pending []write
	shown   map[int]sector
	// The power fails after so many calls, if it is timed.
	timed bool
	calls int
	down  bool
}

// NewDisk returns a disk: ErrArg for a number of sectors that no disk has.
func NewDisk(sectors int) (*Disk, api.Errno) {
	if sectors < api.MinSectors || sectors > api.MaxSectors {
		return nil, api.ErrArg
	}
	return &Disk{durable: make([]sector, sectors), shown: map[int]sector{}}, api.OK
}

// state returns ErrNil for a nil disk, and ErrDown for one that is down.
func (d *Disk) state() api.Errno {
	if d == nil {
		return api.ErrNil
	}
	if d.down {
		return api.ErrDown
	}
	return api.OK
}

// has reports whether there is a sector.
func (d *Disk) has(sector int) bool { return sector >= 0 && sector < len(d.durable) }

// last returns what was written last into a sector.
func (d *Disk) last(at int) sector {
	if s, ok := d.shown[at]; ok {
		return s
	}
	return d.durable[at]
}

// spend uses up a call of the power: ErrDown, from now on, if none is left.
func (d *Disk) spend() api.Errno {
	if !d.timed {
		return api.OK
	}
	if d.calls == 0 {
		d.down = true
		return api.ErrDown
	}
	d.calls--
	return api.OK
}

// settle forgets what is pending.
func (d *Disk) settle() {
	d.pending = nil
	clear(d.shown)
}

// Read returns the bytes of a sector.
func (d *Disk) Read(sector int) ([]byte, api.Errno) {
	if e := d.state(); e != api.OK {
		return nil, e
	}
	if !d.has(sector) {
		return nil, api.ErrArg
	}
	s := d.last(sector)
	return s[:], api.OK
}

// Write writes a sector: bytes, and zeros behind them.
func (d *Disk) Write(sector int, b []byte) api.Errno {
	if e := d.state(); e != api.OK {
		return e
	}
	if !d.has(sector) {
		return api.ErrArg
	}
	if len(b) > api.SectorSize {
		return api.ErrLimit
	}
	if e := d.spend(); e != api.OK {
		return e
	}
	w := write{at: sector}
	copy(w.to[:], b)
	d.pending = append(d.pending, w)
	d.shown[sector] = w.to
	return api.OK
}

// Flush makes all writes durable.
func (d *Disk) Flush() api.Errno {
	if e := d.state(); e != api.OK {
		return e
	}
	if e := d.spend(); e != api.OK {
		return e
	}
	for at, s := range d.shown {
		d.durable[at] = s
	}
	d.settle()
	return api.OK
}

// Stop lets the power fail after a number of calls of Write and Flush.
func (d *Disk) Stop(calls int) api.Errno {
	if e := d.state(); e != api.OK {
		return e
	}
	if calls < 0 {
		return api.ErrArg
	}
	d.timed, d.calls = true, calls
	return api.OK
}

// Crash makes the pending writes happen in part, and the disk is up again.
func (d *Disk) Crash(keep []int) {
	if d == nil {
		return
	}
	for i, w := range d.pending {
		kept := 0
		if i < len(keep) {
			kept = min(max(keep[i], 0), api.SectorSize)
		}
		copy(d.durable[w.at][:kept], w.to[:])
	}
	d.settle()
	d.timed, d.down = false, false
}

// Down reports whether the disk is down.
func (d *Disk) Down() bool { return d == nil || d.down }
