// Package disk is layer 1, a stand-in for a disk that may crash: see shared/doc/01-disk.md.
package disk

import (
	"slices"

	"waywiser/api"
)

// The ends between which a disk may be.
const (
	maxSectors = 1 << 20
	minSize    = 64
	maxSize    = 4096
)

// spot is where a write goes.
type spot struct{ at int }

// write is a loose write.
type write struct {
	spot
	bytes []byte
}

// Disk is a stand-in for a disk. A sector that was never written is nil in its lists, so that a great disk takes little room until it is used. The bytes of a sector are never changed in place, so that its lists may share them.
type Disk struct {
	size  int
	fast  [][]byte // what no crash takes away
	now   [][]byte // what is read: the loose writes upon what is fast
	loose []write  // since the last flush, in order
	armed int      // at which of the writes and flushes to come it goes down; 0, if at none
	down  bool
}

// New is a disk whose sectors are all 0; nil, if there can't be such a one.
func New(sectors, size int) *Disk {
	if sectors < 1 || sectors > maxSectors || size < minSize || size > maxSize {
		return nil
	}
	return &Disk{size: size, fast: make([][]byte, sectors), now: make([][]byte, sectors)}
}

// Sectors tells how many there are.
func (d *Disk) Sectors() int {
	if d == nil {
		return 0
	}
	return len(d.now)
}

// Size tells how many bytes each has.
func (d *Disk) Size() int {
	if d == nil {
		return 0
	}
	return d.size
}

// Read tells a sector's bytes.
func (d *Disk) Read(at int) ([]byte, api.Errno) {
	if e := d.reach(at); e != api.OK {
		return nil, e
	}
	return d.whole(d.now[at]), api.OK
}

// Write gives a sector new bytes. A write at which the disk goes down is loose all the same.
func (d *Disk) Write(at int, b []byte) api.Errno {
	if e := d.reach(at); e != api.OK {
		return e
	}
	if len(b) != d.size {
		return api.ErrSize
	}
	d.keep(at, b)
	return d.strike()
}

// Flush makes all loose writes fast.
func (d *Disk) Flush() api.Errno {
	if d == nil {
		return api.ErrArg
	}
	if d.down || d.strike() != api.OK {
		return api.ErrDown
	}
	for _, w := range d.loose {
		d.fast[w.at] = w.bytes
	}
	d.loose = nil
	return api.OK
}

// Arm lets the disk go down at the n-th of the writes and flushes that come; at none, if n is below 1.
func (d *Disk) Arm(n int) {
	if d != nil {
		d.armed = max(n, 0)
	}
}

// Down: is it down?
func (d *Disk) Down() bool { return d != nil && d.down }

// Loose tells how many loose writes there are.
func (d *Disk) Loose() int {
	if d == nil {
		return 0
	}
	return len(d.loose)
}

// Crash lets the fates say which loose writes are done, and how much of the last one.
func (d *Disk) Crash(fates []int) {
	if d == nil {
		return
	}
	choose := chooser(fates)
	for i, w := range d.loose {
		if i == len(d.loose)-1 {
			d.settle(w, choose(d.size+1))
		} else if choose(2) == 1 {
			d.settle(w, d.size)
		}
	}
	for _, w := range d.loose {
		d.now[w.at] = d.fast[w.at]
	}
	d.loose, d.armed, d.down = nil, 0, false
}

// Copy is a disk like it, which has nothing to do with it.
func (d *Disk) Copy() *Disk {
	if d == nil {
		return nil
	}
	c := &Disk{size: d.size, armed: d.armed, down: d.down}
	c.fast = make([][]byte, len(d.fast))
	for at, b := range d.fast {
		c.fast[at] = slices.Clone(b)
	}
	c.now = slices.Clone(c.fast)
	for _, w := range d.loose {
		c.keep(w.at, w.bytes)
	}
	return c
}

// reach tells why sector at can't be asked for.
func (d *Disk) reach(at int) api.Errno {
	switch {
	case d == nil:
		return api.ErrArg
	case d.down:
		return api.ErrDown
	case at < 0 || at >= len(d.now):
		return api.ErrRange
	}
	return api.OK
}

// keep adds a loose write of a copy of b.
func (d *Disk) keep(at int, b []byte) {
	w := write{spot{at}, slices.Clone(b)}
	d.loose = append(d.loose, w)
	d.now[at] = w.bytes
}

// strike counts a write or a flush: ErrDown, if the disk goes down at it.
func (d *Disk) strike() api.Errno {
	if d.armed == 0 {
		return api.OK
	}
	d.armed--
	if d.armed > 0 {
		return api.OK
	}
	d.down = true
	return api.ErrDown
}

// settle makes a write's first bytes fast, as many as are done.
func (d *Disk) settle(w write, done int) {
	b := d.whole(d.fast[w.at])
	copy(b, w.bytes[:done])
	d.fast[w.at] = b
}

// whole is a copy of a sector's bytes, also of one that was never written.
func (d *Disk) whole(b []byte) []byte {
	out := make([]byte, d.size)
	copy(out, b)
	return out
}

// chooser hands out the fates, one a call, each as a choice of n.
func chooser(fates []int) func(n int) int {
	next := 0
	return func(n int) int {
		if next == len(fates) {
			return 0
		}
		c := fates[next] % n
		next++
		if c < 0 {
			c += n
		}
		return c
	}
}
