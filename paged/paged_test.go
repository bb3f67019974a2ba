package paged_test

import (
	"testing"

	"waywiser/api"
	"waywiser/disk"
	"waywiser/paged"
	"waywiser/pool"
)

func formatted(t *testing.T) (*pool.Pool, *disk.Disk) {
	t.Helper()
	d := disk.New(40, 512)
	p, e := pool.Format(d)
	if e != api.OK {
		t.Fatalf("Format: %d", e)
	}
	return p, d
}

func TestTold(t *testing.T) {
	for e := api.OK; e <= api.ErrCommand; e++ {
		p, _ := formatted(t)
		p.Take()
		if got := paged.Told(p, e); got != e {
			t.Errorf("Told(%d): %d", e, got)
		}
		back := e == api.ErrFull || e == api.ErrState || e == api.ErrDown
		if (p.Taken() == 0) != back {
			t.Errorf("Told(%d): %d pages are taken", e, p.Taken())
		}
	}
}

func TestPlaceAndGive(t *testing.T) {
	p, _ := formatted(t)
	for want := 1; want <= 3; want++ {
		page, e := paged.Place(p, []byte{byte(want)})
		load, f := p.Read(page)
		if page != want || e != api.OK || f != api.OK || load[0] != byte(want) {
			t.Errorf("Place: %d, %d; %v, %d", page, e, load[:1], f)
		}
	}
	if e := paged.Give(p, []int{3, 1}); e != api.OK || p.Taken() != 1 {
		t.Errorf("Give: %d, %d pages are taken", e, p.Taken())
	}
	if e := paged.Give(p, []int{2, 2}); e != api.ErrNone {
		t.Errorf("Give twice: %d", e)
	}
	for e := api.OK; e == api.OK; {
		_, e = paged.Place(p, nil)
		if e != api.OK && e != api.ErrFull {
			t.Errorf("Place: %d", e)
		}
	}
}

func TestReader(t *testing.T) {
	p, d := formatted(t)
	page, _ := paged.Place(p, []byte{7})
	r := paged.Read(p)
	for range p.Pages() {
		if load, e := r.Load(page); e != api.OK || load[0] != 7 {
			t.Fatalf("Load: %v, %d", load, e)
		}
	}
	if load, e := r.Load(page); load != nil || e != api.ErrForm {
		t.Errorf("Load once too often: %v, %d", load, e)
	}
	if load, e := paged.Read(p).Load(page + 1); load != nil || e != api.ErrForm {
		t.Errorf("Load of no page: %v, %d", load, e)
	}
	p.Commit()
	p.Checkpoint()
	d.Arm(1)
	d.Flush()
	if load, e := paged.Read(p).Load(page); load != nil || e != api.ErrDown {
		t.Errorf("Load of a disk that is down: %v, %d", load, e)
	}
}
