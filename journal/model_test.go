package journal_test

import (
	"math/rand"
	"testing"

	"muniment/api"
	"muniment/disk"
	"muniment/journal"
)

// P7.1 to P7.3 once more: journals on which much is done by turns, held against a model.

// A model is the records that there are, the sectors that are taken, and what was there at the last sync.
type model struct {
	count, used, fuse int
	over, down        bool
	records           [][]byte
	synced            int
}

func (m *model) burn() bool {
	if m.fuse == 0 {
		m.down = true
	}
	if m.fuse > 0 {
		m.fuse--
	}
	return !m.down
}

func (m *model) append(b []byte) api.Errno {
	parts := (len(b) + 233) / 234
	switch {
	case m.over:
		return api.ErrLost
	case len(b) == 0:
		return api.ErrArg
	case len(b) > 8000:
		return api.ErrLong
	case m.used+parts > m.count:
		return api.ErrFull
	}
	for range parts {
		if m.down || !m.burn() {
			m.over = true
			return api.ErrLost
		}
		m.used++
	}
	m.records = append(m.records, b)
	return api.OK
}

func (m *model) sync() api.Errno {
	if m.over || m.down || !m.burn() {
		m.over = true
		return api.ErrLost
	}
	m.synced = len(m.records)
	return api.OK
}

func drawnRecord(r *rand.Rand) []byte {
	if r.Intn(3) == 0 {
		n := []int{0, 1, 233, 234, 235, 468, 469, 8000, 8001}[r.Intn(9)]
		return recordOf(n, byte(r.Intn(256)))
	}
	return recordOf(r.Intn(900), byte(r.Intn(256)))
}

func drawnKeep(r *rand.Rand) []bool {
	var keep []bool
	for range r.Intn(9) {
		keep = append(keep, r.Intn(4) > 0)
	}
	return keep
}

// wantBehindCut asks for the first ones of the records, at least those that were synced.
func (m *model) wantBehindCut(t *testing.T, c *disk.Disk, from int, epoch uint64) {
	t.Helper()
	l, err := journal.Scan(c, from, m.count, epoch)
	if err != api.OK || len(l) < m.synced || len(l) > len(m.records) || !alike(l, m.records[:len(l)]) {
		t.Errorf("behind a cut: %s, error %d, of %s, synced %d", told(l), err, told(m.records), m.synced)
	}
}

// One disk, on which journals of rising epochs are laid by turns, one over the other, with power cuts between.
func TestMany(t *testing.T) {
	r := rand.New(rand.NewSource(7))
	for range 200 {
		d := disk.New(90)
		down := false
		for epoch := uint64(1); epoch < 12; epoch++ {
			from := r.Intn(20)
			m := &model{count: r.Intn(90 - from), fuse: -1}
			if down {
				d = d.Cut(drawnKeep(r))
				down = false
			}
			j := newJournal(t, d, from, m.count, epoch)
			for range r.Intn(40) {
				switch r.Intn(12) {
				case 0, 1:
					wantSync(t, j, m.sync())
				case 2:
					if !m.down && r.Intn(3) == 0 {
						m.fuse = r.Intn(20)
						d.SetFuse(m.fuse)
					}
				case 3:
					m.wantBehindCut(t, d.Cut(drawnKeep(r)), from, epoch)
					m.wantBehindCut(t, d.Cut([]bool{false}), from, epoch)
				default:
					b := drawnRecord(r)
					wantAppend(t, j, b, m.append(b))
				}
				wantRoom(t, j, m.count-m.used, len(m.records))
				if !m.down {
					wantScan(t, d, from, m.count, epoch, m.records...)
				}
			}
			d.SetFuse(-1)
			down = m.down || r.Intn(3) == 0
		}
		if t.Failed() {
			return
		}
	}
}
