package disk_test

import (
	"testing"

	"muniment/api"
	"muniment/disk"
)

// P6.2: Pending, Cut and Acts.

// fiveWrites is a disk of 3 sectors, of which 0 and 1 last as sectors of 100 and 101; behind them are written 0: 1, 1: 2, 0: 3, 2: 4, 1: 5.
func fiveWrites(t *testing.T) *disk.Disk {
	t.Helper()
	d := disk.New(3)
	wantWrite(t, d, 0, sectorOf(100), api.OK)
	wantWrite(t, d, 1, sectorOf(101), api.OK)
	wantSync(t, d, api.OK)
	for i, n := range []int{0, 1, 0, 2, 1} {
		wantWrite(t, d, n, sectorOf(byte(i+1)), api.OK)
	}
	return d
}

func wantFiveWrites(t *testing.T, d *disk.Disk) {
	t.Helper()
	wantSectors(t, d, sectorOf(3), sectorOf(5), sectorOf(4))
	wantPending(t, d, 5)
	wantSectors(t, d.Cut([]bool{false}), sectorOf(100), sectorOf(101), blank())
}

func TestCutKeeps(t *testing.T) {
	const no, yes = false, true
	for _, c := range []struct {
		keep []bool
		want [3][]byte
	}{
		{nil, [3][]byte{sectorOf(3), sectorOf(5), sectorOf(4)}},
		{[]bool{}, [3][]byte{sectorOf(3), sectorOf(5), sectorOf(4)}},
		{make([]bool, 0, 5), [3][]byte{sectorOf(3), sectorOf(5), sectorOf(4)}},
		{[]bool{yes}, [3][]byte{sectorOf(3), sectorOf(5), sectorOf(4)}},
		{[]bool{no}, [3][]byte{sectorOf(100), sectorOf(101), blank()}},
		{[]bool{yes, no}, [3][]byte{sectorOf(3), sectorOf(5), blank()}},
		{[]bool{no, yes}, [3][]byte{sectorOf(100), sectorOf(2), sectorOf(4)}},
		{[]bool{yes, no, no}, [3][]byte{sectorOf(1), sectorOf(101), sectorOf(4)}},
		{[]bool{no, yes, no}, [3][]byte{sectorOf(100), sectorOf(5), blank()}},
		{[]bool{yes, yes, no, no}, [3][]byte{sectorOf(1), sectorOf(5), blank()}},
		{[]bool{no, no, yes, no}, [3][]byte{sectorOf(3), sectorOf(101), blank()}},
		{[]bool{no, no, no, no, no}, [3][]byte{sectorOf(100), sectorOf(101), blank()}},
		{[]bool{yes, yes, yes, yes, yes}, [3][]byte{sectorOf(3), sectorOf(5), sectorOf(4)}},
		{[]bool{yes, yes, no, no, no}, [3][]byte{sectorOf(1), sectorOf(2), blank()}},
		{[]bool{no, no, no, no, yes, no}, [3][]byte{sectorOf(100), sectorOf(5), blank()}},
		{[]bool{no, no, no, no, no, yes, yes, yes}, [3][]byte{sectorOf(100), sectorOf(101), blank()}},
		{[]bool{yes, no, no, yes, no, yes, yes, yes}, [3][]byte{sectorOf(1), sectorOf(101), sectorOf(4)}},
	} {
		d := fiveWrites(t)
		cut := d.Cut(c.keep)
		for n, want := range c.want {
			if b, err := cut.Read(n); err != api.OK || string(b) != string(want) {
				t.Errorf("Cut(%v): Read(%d): %s, error %d, want %s", c.keep, n, told(b), err, told(want))
			}
		}
		wantFiveWrites(t, d)
	}
}

// All orders of few writes to two sectors, and all lists that keep some.
func TestCutOfAll(t *testing.T) {
	for count := range 5 {
		for _, places := range allKeeps(count) {
			d := disk.New(2)
			for i, second := range places {
				wantWrite(t, d, placeOf(second), sectorOf(byte(i)), api.OK)
			}
			for length := range 6 {
				for _, keep := range allKeeps(length) {
					want := [][]byte{blank(), blank()}
					for i, second := range places {
						if length == 0 || keep[i%length] {
							want[placeOf(second)] = sectorOf(byte(i))
						}
					}
					wantSectors(t, d.Cut(keep), want...)
				}
			}
			wantPending(t, d, count)
		}
	}
}

func placeOf(second bool) int {
	if second {
		return 1
	}
	return 0
}

// In what Cut answers all lasts, and nothing is pending: a sync makes no more of it last, a cut forgets none of it.
func TestCutLasts(t *testing.T) {
	for _, keep := range [][]bool{nil, {true}, {false}, {true, false}, {false, true}, {false, false, true}} {
		cut := fiveWrites(t).Cut(keep)
		wantSize(t, cut, 3)
		wantDown(t, cut, false)
		wantPending(t, cut, 0)
		wantActs(t, cut, 0, 0, 0)
		var sectors [][]byte
		for n := range 3 {
			b, _ := cut.Read(n)
			sectors = append(sectors, b)
		}
		for _, again := range [][]bool{nil, {true}, {false}, {true, false}} {
			wantSectors(t, cut.Cut(again), sectors...)
			wantSectors(t, cut.Cut(again).Cut(again), sectors...)
		}
		wantSync(t, cut, api.OK)
		wantSectors(t, cut, sectors...)
		wantSectors(t, cut.Cut([]bool{false}), sectors...)
	}
}

func TestCutOfCut(t *testing.T) {
	cut := fiveWrites(t).Cut([]bool{true, false})
	wantWrite(t, cut, 2, sectorOf(20), api.OK)
	wantWrite(t, cut, 0, sectorOf(21), api.OK)
	wantPending(t, cut, 2)
	wantSectors(t, cut, sectorOf(21), sectorOf(5), sectorOf(20))
	wantSectors(t, cut.Cut([]bool{false}), sectorOf(3), sectorOf(5), blank())
	wantSectors(t, cut.Cut([]bool{true, false}), sectorOf(3), sectorOf(5), sectorOf(20))
	again := cut.Cut([]bool{false, true})
	wantSectors(t, again, sectorOf(21), sectorOf(5), blank())
	wantSectors(t, again.Cut([]bool{false}), sectorOf(21), sectorOf(5), blank())
	wantSectors(t, cut.Cut(nil), sectorOf(21), sectorOf(5), sectorOf(20))
}

func TestCutOfNothingPending(t *testing.T) {
	for _, keep := range [][]bool{nil, {true}, {false}, {false, true, false}} {
		cut := disk.New(3).Cut(keep)
		wantSize(t, cut, 3)
		wantSectors(t, cut, blank(), blank(), blank())
		wantReadError(t, cut, 3, api.ErrArg)

		d := fiveWrites(t)
		wantSync(t, d, api.OK)
		wantSectors(t, d.Cut(keep), sectorOf(3), sectorOf(5), sectorOf(4))
		wantPending(t, d, 0)
	}
}

func TestCutSizes(t *testing.T) {
	for _, c := range newSizes() {
		cut := disk.New(c[0]).Cut(nil)
		wantSize(t, cut, c[1])
		wantReadError(t, cut, c[1], api.ErrArg)
		wantReadError(t, cut, -1, api.ErrArg)
		if c[1] > 0 {
			wantWrite(t, cut, c[1]-1, sectorOf(1), api.OK)
			wantRead(t, cut, c[1]-1, sectorOf(1))
		}
		wantSync(t, cut, api.OK)
	}
}

// A power cut is what brings a disk back; the one that is down stays so.
func TestCutOfDiskDown(t *testing.T) {
	d := fiveWrites(t)
	d.SetFuse(1)
	wantWrite(t, d, 2, sectorOf(6), api.OK)
	wantWrite(t, d, 2, sectorOf(7), api.ErrLost)
	wantPending(t, d, 6)
	for _, c := range []struct {
		keep []bool
		want [][]byte
	}{
		{nil, [][]byte{sectorOf(3), sectorOf(5), sectorOf(6)}},
		{[]bool{false}, [][]byte{sectorOf(100), sectorOf(101), blank()}},
		{[]bool{true, false}, [][]byte{sectorOf(3), sectorOf(5), blank()}},
		{[]bool{false, false, false, false, false, true, true}, [][]byte{sectorOf(100), sectorOf(101), sectorOf(6)}},
	} {
		cut := d.Cut(c.keep)
		wantDown(t, cut, false)
		wantSectors(t, cut, c.want...)
		wantNoFuse(t, cut)
		wantLost(t, d)
		wantPending(t, d, 6)
		wantActs(t, d, 0, 8, 1)
	}
}

// The fuse stays where it was laid.
func TestCutHasNoFuse(t *testing.T) {
	for n := range 4 {
		d := fiveWrites(t)
		d.SetFuse(n)
		wantNoFuse(t, d.Cut(nil))
		wantNoFuse(t, d.Cut([]bool{false}))
		wantFuse(t, d, n)
		wantNoFuse(t, d.Cut(nil))
	}
}

func TestPending(t *testing.T) {
	d := disk.New(2)
	for range 3 {
		for count := range 10 {
			wantPending(t, d, count)
			wantWrite(t, d, count%2, sectorOf(1), api.OK)
			wantRead(t, d, 0, sectorOf(1))
			wantWrite(t, d, 2, sectorOf(1), api.ErrArg)
			wantWrite(t, d, 0, nil, api.ErrArg)
		}
		wantPending(t, d, 10)
		wantSync(t, d, api.OK)
	}
	wantPending(t, d, 0)
	wantSync(t, d, api.OK)
	wantPending(t, d, 0)
}

// Only what was answered OK counts.
func TestActs(t *testing.T) {
	d := disk.New(2)
	wantActs(t, d, 0, 0, 0)
	wantRead(t, d, 0, blank())
	wantRead(t, d, 0, blank())
	wantActs(t, d, 2, 0, 0)
	wantWrite(t, d, 0, sectorOf(1), api.OK)
	wantWrite(t, d, 0, sectorOf(1), api.OK)
	wantWrite(t, d, 1, blank(), api.OK)
	wantActs(t, d, 2, 3, 0)
	wantSync(t, d, api.OK)
	wantActs(t, d, 2, 3, 1)
	wantReadError(t, d, 2, api.ErrArg)
	wantReadError(t, d, -1, api.ErrArg)
	wantWrite(t, d, 2, sectorOf(1), api.ErrArg)
	wantWrite(t, d, 1, nil, api.ErrArg)
	wantActs(t, d, 2, 3, 1)
	wantActs(t, d.Cut(nil), 0, 0, 0)
	wantActs(t, d, 2, 3, 1)
	d.SetFuse(1)
	wantActs(t, d, 2, 3, 1)
	wantSync(t, d, api.OK)
	wantSync(t, d, api.ErrLost)
	wantLost(t, d)
	wantActs(t, d, 2, 3, 2)
	cut := d.Cut(nil)
	wantActs(t, cut, 0, 0, 0)
	wantRead(t, cut, 1, blank())
	wantWrite(t, cut, 1, sectorOf(3), api.OK)
	wantSync(t, cut, api.OK)
	wantActs(t, cut, 1, 1, 1)
	wantActs(t, d, 2, 3, 2)
}

// The chapter's example.
func TestExample(t *testing.T) {
	d := disk.New(4)
	wantWrite(t, d, 1, sectorOf(1), api.OK)
	wantSync(t, d, api.OK)
	wantWrite(t, d, 1, sectorOf(2), api.OK)
	wantWrite(t, d, 2, sectorOf(3), api.OK)
	wantPending(t, d, 2)
	wantSectors(t, d.Cut([]bool{false, true}), blank(), sectorOf(1), sectorOf(3), blank())
}
