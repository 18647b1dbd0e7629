package disk_test

import (
	"math/rand"
	"testing"

	"muniment/api"
	"muniment/disk"
)

// P6.1 and P6.2 once more: disks of few sectors, on which much is done, held against a model.

// A model is all that was done, one act behind the other: what stands on the disk is looked for from the end.
type model struct {
	size    int
	log     []done
	fuse    int
	isDown  bool
	counted [3]int64
}

// done is a write, or, with n below 0, a sync.
type done struct {
	n int
	b []byte
}

func (m *model) read(n int) []byte {
	for i := len(m.log) - 1; i >= 0; i-- {
		if m.log[i].n == n {
			return m.log[i].b
		}
	}
	return blank()
}

// synced is the number of the first act behind the last sync.
func (m *model) synced() int {
	for i := len(m.log); i > 0; i-- {
		if m.log[i-1].n < 0 {
			return i
		}
	}
	return 0
}

func (m *model) burn() bool {
	if m.fuse == 0 {
		m.isDown = true
		return false
	}
	if m.fuse > 0 {
		m.fuse--
	}
	return true
}

func (m *model) write(n int, b []byte) api.Errno {
	switch {
	case m.isDown:
		return api.ErrLost
	case n < 0 || n >= m.size || len(b) != 256:
		return api.ErrArg
	case !m.burn():
		return api.ErrLost
	}
	m.log = append(m.log, done{n, b})
	m.counted[1]++
	return api.OK
}

func (m *model) sync() api.Errno {
	if m.isDown || !m.burn() {
		return api.ErrLost
	}
	m.log = append(m.log, done{n: -1})
	m.counted[2]++
	return api.OK
}

func (m *model) cut(keep []bool) *model {
	c := &model{size: m.size, fuse: -1}
	from := m.synced()
	c.log = append(c.log, m.log[:from]...)
	for i, w := range m.log[from:] {
		if len(keep) == 0 || keep[i%len(keep)] {
			c.log = append(c.log, w)
		}
	}
	c.log = append(c.log, done{n: -1})
	return c
}

func (m *model) wantLike(t *testing.T, d *disk.Disk) {
	t.Helper()
	wantSize(t, d, m.size)
	wantDown(t, d, m.isDown)
	wantPending(t, d, len(m.log)-m.synced())
	for n := range m.size {
		if m.isDown {
			wantReadError(t, d, n, api.ErrLost)
		} else {
			wantRead(t, d, n, m.read(n))
			m.counted[0]++
		}
	}
	wantActs(t, d, m.counted[0], m.counted[1], m.counted[2])
}

// act does one thing that is drawn to both.
func (m *model) act(t *testing.T, r *rand.Rand, d *disk.Disk) {
	t.Helper()
	switch r.Intn(10) {
	case 0:
		wantSync(t, d, m.sync())
	case 1:
		m.fuse = r.Intn(8) - 3
		d.SetFuse(m.fuse)
	case 2:
		b := wrongBytes()[r.Intn(9)]
		n := r.Intn(m.size+2) - 1
		wantWrite(t, d, n, b, m.write(n, b))
	case 3:
		keep := drawnKeep(r, 5)
		m.cut(keep).wantLike(t, d.Cut(keep))
	default:
		b := sectorOf(byte(r.Intn(256)))
		n := r.Intn(m.size+2) - 1
		wantWrite(t, d, n, b, m.write(n, b))
	}
}

func TestMany(t *testing.T) {
	r := rand.New(rand.NewSource(6))
	for range 2000 {
		size := r.Intn(5)
		d, m := disk.New(size), &model{size: size, fuse: -1}
		for range 40 {
			m.act(t, r, d)
			m.wantLike(t, d)
			if r.Intn(12) == 0 || m.isDown && r.Intn(3) == 0 {
				keep := drawnKeep(r, 5)
				d, m = d.Cut(keep), m.cut(keep)
				m.wantLike(t, d)
			}
		}
		if t.Failed() {
			return
		}
	}
}

// The greatest disk, on which sectors here and there are written, and a cut.
func TestManyOfTheGreatest(t *testing.T) {
	r := rand.New(rand.NewSource(7))
	d := disk.New(65536)
	want := map[int]byte{}
	for range 5000 {
		n, c := r.Intn(65536), byte(r.Intn(256))
		wantWrite(t, d, n, sectorOf(c), api.OK)
		want[n] = c
		if r.Intn(100) == 0 {
			wantSync(t, d, api.OK)
		}
	}
	cut := d.Cut(nil)
	for n := range 65536 {
		b := blank()
		if c, ok := want[n]; ok {
			b = sectorOf(c)
		}
		wantRead(t, d, n, b)
		wantRead(t, cut, n, b)
	}
}
