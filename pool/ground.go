package pool

import (
	"maps"
	"slices"

	"waywiser/api"
	"waywiser/disk"
	"waywiser/frame"
	"waywiser/log"
)

// The least disk on which a pool stands, and the greatest epoch that there is.
const (
	minSectors = 24
	minSize    = 512
	maxEpoch   = 1 << 40
)

// To what a disk's sectors belong: heads come first, then the log, one part in so many of the rest, then the pages.
const (
	heads   = 2
	logPart = 4
)

// ground is where a pool stands.
type ground struct {
	disk  *disk.Disk
	slots int // of the log
}

// groundOf is that of a disk.
func groundOf(d *disk.Disk) (ground, api.Errno) {
	switch {
	case d == nil:
		return ground{}, api.ErrArg
	case d.Sectors() < minSectors || d.Size() < minSize:
		return ground{}, api.ErrSize
	}
	return ground{d, (d.Sectors() - heads) / logPart}, api.OK
}

// room tells how long a page's load is.
func (g ground) room() int { return log.Room(g.disk.Size()) }

// pages tells how many there are.
func (g ground) pages() int { return g.disk.Sectors() - g.place(0) }

// place tells the sector of a page.
func (g ground) place(page int) int { return heads + g.slots + page }

// atPlace tells the load that stands at a page's place.
func (g ground) atPlace(page int) ([]byte, api.Errno) {
	b, e := g.disk.Read(g.place(page))
	if e != api.OK {
		return nil, e
	}
	return b[:g.room():g.room()], api.OK
}

// newest tells the greatest epoch of a head; 0, if there is no head.
func (g ground) newest() (int, api.Errno) {
	newest := 0
	for at := range heads {
		sector, e := g.disk.Read(at)
		if e != api.OK {
			return 0, e
		}
		newest = max(newest, epochOf(sector, at))
	}
	return newest, api.OK
}

// epochOf tells the epoch of the head that stands in a sector; 0, if there is none.
func epochOf(sector []byte, at int) int {
	epoch, load, e := frame.Read(sector)
	if e != api.OK || epoch > maxEpoch || epoch%heads != at || slices.Max(load) > 0 {
		return 0
	}
	return epoch
}

// held tells the loads that the log holds in an epoch, of each page the last one.
func (g ground) held(epoch int) (map[int][]byte, api.Errno) {
	groups, e := log.Read(g.disk, heads, g.slots, epoch)
	if e != api.OK {
		return nil, e
	}
	loads := map[int][]byte{}
	for _, c := range slices.Concat(groups...) {
		if c.Page >= g.pages() {
			return nil, api.ErrForm
		}
		loads[c.Page] = c.Load
	}
	return loads, api.OK
}

// clean makes torn slots of the log 0.
func (g ground) clean() api.Errno { return log.Clean(g.disk, heads, g.slots) }

// begin writes loads to their pages' places, and begins an epoch behind it, whose log has no slot written.
func (g ground) begin(epoch int, loads map[int][]byte) (*log.Log, api.Errno) {
	for _, page := range slices.Sorted(maps.Keys(loads)) {
		if e := g.write(g.place(page), loads[page]); e != api.OK {
			return nil, e
		}
	}
	if e := g.disk.Flush(); e != api.OK {
		return nil, e
	}
	head, e := frame.Build(g.disk.Size(), epoch, nil)
	if e != api.OK {
		return nil, e
	}
	if e := g.write(epoch%heads, head); e != api.OK {
		return nil, e
	}
	if e := g.disk.Flush(); e != api.OK {
		return nil, e
	}
	return log.Start(g.disk, heads, g.slots, epoch)
}

// write gives a sector new bytes, with 0 behind them.
func (g ground) write(at int, b []byte) api.Errno {
	return g.disk.Write(at, filled(b, g.disk.Size()))
}

// vacate readies the ground for a blank pool, and tells the greatest epoch of all heads and slots. If the disk goes down meanwhile, a pool that was there is there behind it, or a blank one.
func (g ground) vacate() (int, api.Errno) {
	head, e := g.newest()
	if e != api.OK {
		return 0, e
	}
	slot, e := log.Latest(g.disk, heads, g.slots)
	if e != api.OK {
		return 0, e
	}
	if e := g.clean(); e != api.OK {
		return 0, e
	}
	epoch := max(head, slot)
	if head == 0 || epoch+1 >= maxEpoch { // the last epoch is the blank pool's
		return epoch, api.OK
	}
	return epoch + 1, g.yield(head, epoch+1)
}

// yield turns the pool of an old epoch into a blank one of a new epoch, by one group.
func (g ground) yield(old, epoch int) api.Errno {
	loads, e := g.held(old)
	if e == api.ErrForm { // it is no pool that could be opened
		return api.OK
	}
	if e != api.OK {
		return e
	}
	l, e := g.begin(epoch, loads)
	if e != api.OK {
		return e
	}
	return l.Append([]log.Change{{Page: 0, Load: figures{}.bytes(g.room())}})
}

// filled is so many bytes, at whose begin b stands, and 0 behind it.
func filled(b []byte, size int) []byte {
	out := make([]byte, size)
	copy(out, b)
	return out
}
