package paged_test

import (
	"bytes"
	"testing"

	"waywiser/api"
	"waywiser/disk"
	"waywiser/paged"
	"waywiser/pool"
)

func formatted(t *testing.T) (*pool.Pool, *disk.Disk) {
	t.Helper()
	d := disk.New(40, 512)
	p, e := pool.Format(d)
	if e != api.OK {
		t.Fatalf("Format: %d", e)
	}
	return p, d
}

func TestTold(t *testing.T) {
	for e := api.OK; e <= api.ErrCommand; e++ {
		p, _ := formatted(t)
		p.Take()
		if got := paged.Told(p, e); got != e {
			t.Errorf("Told(%d): %d", e, got)
		}
		back := e == api.ErrFull || e == api.ErrState || e == api.ErrDown
		if (p.Taken() == 0) != back {
			t.Errorf("Told(%d): %d pages are taken", e, p.Taken())
		}
	}
}

func TestPlaceAndGive(t *testing.T) {
	p, _ := formatted(t)
	for want := 1; want <= 3; want++ {
		page, e := paged.Place(p, []byte{byte(want)})
		load, f := p.Read(page)
		if page != want || e != api.OK || f != api.OK || load[0] != byte(want) {
			t.Errorf("Place: %d, %d; %v, %d", page, e, load[:1], f)
		}
	}
	if e := paged.Give(p, []int{3, 1}); e != api.OK || p.Taken() != 1 {
		t.Errorf("Give: %d, %d pages are taken", e, p.Taken())
	}
	if e := paged.Give(p, []int{2, 2}); e != api.ErrNone {
		t.Errorf("Give twice: %d", e)
	}
	for e := api.OK; e == api.OK; {
		_, e = paged.Place(p, nil)
		if e != api.OK && e != api.ErrFull {
			t.Errorf("Place: %d", e)
		}
	}
}

func TestReader(t *testing.T) {
	p, d := formatted(t)
	page, _ := paged.Place(p, []byte{7})
	r := paged.Read(p)
	for range p.Pages() {
		if load, e := r.Load(page); e != api.OK || load[0] != 7 {
			t.Fatalf("Load: %v, %d", load, e)
		}
	}
	if load, e := r.Load(page); load != nil || e != api.ErrForm {
		t.Errorf("Load once too often: %v, %d", load, e)
	}
	if load, e := paged.Read(p).Load(page + 1); load != nil || e != api.ErrForm {
		t.Errorf("Load of no page: %v, %d", load, e)
	}
	p.Commit()
	p.Checkpoint()
	d.Arm(1)
	d.Flush()
	if load, e := paged.Read(p).Load(page); load != nil || e != api.ErrDown {
		t.Errorf("Load of a disk that is down: %v, %d", load, e)
	}
}

func TestDraft(t *testing.T) {
	p, _ := formatted(t)
	for n := range byte(4) {
		paged.Place(p, []byte{n})
	}
	d := paged.Begin(p)
	load := []byte{70, 71}
	d.Write(2, load)
	load[1] = 9
	d.Write(3, []byte{80})
	d.Give(3)
	d.Give(4)
	for page, want := range map[int][]byte{1: {0, 0}, 2: {70, 71, 0}, 3: {2, 0}} {
		if got, e := d.Load(page); e != api.OK || len(got) != p.Room() || !bytes.HasPrefix(got, want) {
			t.Errorf("Load(%d): %v, %d", page, got[:3], e)
		}
	}
	if load, e := p.Read(2); e != api.OK || load[0] != 1 || p.Taken() != 4 {
		t.Errorf("ahead of Do: %v, %d; %d pages are taken", load[:2], e, p.Taken())
	}
	if e := d.Do(); e != api.OK {
		t.Fatalf("Do: %d", e)
	}
	if load, e := p.Read(2); e != api.OK || !bytes.HasPrefix(load, []byte{70, 71, 0}) || p.Taken() != 2 {
		t.Errorf("behind Do: %v, %d; %d pages are taken", load[:2], e, p.Taken())
	}
	for _, want := range []int{4, 3} { // what was given back last is taken first
		if page, e := p.Take(); page != want || e != api.OK {
			t.Errorf("Take: %d, %d, not %d", page, e, want)
		}
	}
}

func TestDraftThatCantBe(t *testing.T) {
	p, _ := formatted(t)
	page, _ := paged.Place(p, nil)
	for want, change := range map[api.Errno]func(d *paged.Draft){
		api.ErrNone: func(d *paged.Draft) { d.Write(page+1, nil) },
		api.ErrSize: func(d *paged.Draft) { d.Write(page, make([]byte, p.Room()+1)) },
		api.OK:      func(d *paged.Draft) { d.Write(page, make([]byte, p.Room())) },
	} {
		d := paged.Begin(p)
		change(d)
		if e := d.Do(); e != want {
			t.Errorf("Do: %d, not %d", e, want)
		}
		if load, e := d.Load(page + 2); load != nil || e != api.ErrForm {
			t.Errorf("Load of no page: %v, %d", load, e)
		}
	}
}
