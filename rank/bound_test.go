package rank

import (
	"math/rand"
	"slices"
	"strings"
	"testing"

	"waywiser/api"
	"waywiser/disk"
	"waywiser/index"
	"waywiser/pool"
	"waywiser/score"
)

// anyStats are some by chance; mostly texts are short, or have some hundred words.
func anyStats(r *rand.Rand) score.Stats {
	s := score.Stats{Texts: 1 + r.Intn(1<<r.Intn(33))}
	switch r.Intn(3) {
	case 0:
		s.Total = r.Intn(1 << 52)
	case 1:
		s.Total = s.Texts * r.Intn(1<<r.Intn(20))
	case 2:
		s.Total = s.Texts*(100+r.Intn(1000)) + r.Intn(s.Texts)
	}
	return s
}

// TestMostScore: no posting of a block has a greater score, whatever the stats are; also not by what is lost by rounding.
func TestMostScore(t *testing.T) { // P20.3
	r := rand.New(rand.NewSource(1))
	lost := 0
	for range 300000 {
		s := anyStats(r)
		count := 1 + r.Intn(s.Texts)
		h := index.Head{Tf: 1 + r.Intn(1<<r.Intn(21)), Length: 1 + r.Intn(1<<r.Intn(21))}
		if r.Intn(2) == 0 {
			h = index.Head{Tf: 300 + r.Intn(5000), Length: 1 + r.Intn(300)}
		}
		most := mostScore(s, count, h)
		for range 4 {
			tf := 1 + r.Intn(h.Tf)
			if r.Intn(2) == 0 {
				tf = max(1, h.Tf-r.Intn(3))
			}
			length := max(tf, h.Length)
			if r.Intn(2) == 0 {
				length += r.Intn(1 << r.Intn(20))
			}
			got := score.Score(s, count, tf, length)
			if got > most {
				t.Fatalf("%v, %d of them, %v: %d places of %d have %d, above %d", s, count, h, tf, length, got, most)
			}
			if h.Tf > h.Length && got > score.Score(s, count, h.Tf, h.Tf) {
				lost++
			}
		}
	}
	if lost == 0 {
		t.Error("nothing was lost by rounding")
	}
}

// loads counts a cursor's blocks that are loaded while hits are ranged over.
func loads(t *testing.T, x *index.Index, terms []string, least int) (loaded, blocks int) {
	t.Helper()
	a, e := open(x, terms)
	if e != api.OK {
		t.Fatalf("open: %d", e)
	}
	for _, c := range a.cursors {
		blocks += len(c.heads)
	}
	seen := map[*cursor]int{}
	all := slices.Clone(a.cursors)
	for _, e := range a.hits(func() int {
		for _, c := range all {
			if len(c.left) > 0 && seen[c] != len(c.heads) {
				seen[c] = len(c.heads)
				loaded++
			}
		}
		return least
	}) {
		if e != api.OK {
			t.Fatalf("hits: %d", e)
		}
	}
	return loaded, blocks
}

// TestBlocksAreLeftOut: a block none of whose rows has enough of a score is not loaded.
func TestBlocksAreLeftOut(t *testing.T) {
	p, _ := pool.Format(disk.New(4000, 512))
	x, _ := index.Make(p)
	for row := range 800 {
		s := "ship" + strings.Repeat(" word", 30)
		if row == 300 {
			s = "ship ship"
		}
		if row%160 == 7 {
			s += " boat"
		}
		if e := x.Add(row, s); e != api.OK {
			t.Fatalf("Add: %d", e)
		}
	}
	best, _ := Top(x, []string{"ship"}, 1, nil)
	if len(best) != 1 || best[0].Row != 300 {
		t.Fatalf("Top: %v", best)
	}
	if loaded, blocks := loads(t, x, []string{"ship"}, best[0].Score-1); blocks < 100 || loaded > 2 {
		t.Errorf("%d blocks of %d are loaded", loaded, blocks)
	}
	if loaded, blocks := loads(t, x, []string{"ship"}, best[0].Score); loaded > 0 {
		t.Errorf("%d blocks of %d are loaded", loaded, blocks)
	}
	if loaded, blocks := loads(t, x, []string{"ship"}, anyScore); loaded == 0 {
		t.Errorf("%d blocks of %d are loaded", loaded, blocks)
	}
	all, _ := Every(x, []string{"boat", "ship"})
	least := all[0].Score // of ship alone
	if loaded, blocks := loads(t, x, []string{"boat", "ship"}, least); loaded > 14 {
		t.Errorf("%d blocks of %d are loaded", loaded, blocks)
	}
}
