package journal

import (
	"bytes"
	"slices"
	"testing"

	"lombard/api"
	"lombard/block"
)

// P20.2: the document's example: 60 bytes have 2 blocks.
func TestSixtyBytes(t *testing.T) {
	h := hold(t, 4)
	if e := h.append(bytes.Repeat([]byte("x"), 60)); e != api.OK || h.j.Used() != 2 || h.s.Waiting() != 2 {
		t.Error(e, h.j.Used(), h.s.Waiting())
	}
	first, _ := h.s.Read(0)
	second, _ := h.s.Read(1)
	if !slices.Equal(first[:8], []byte{1, 0, 0, 0, 0, 2, 53, 'x'}) || first[59] != 'x' {
		t.Error(first)
	}
	if !slices.Equal(second[:8], []byte{1, 0, 0, 0, 1, 2, 7, 'x'}) || second[13] != 'x' || !slices.Equal(second[14:60], make([]byte, 46)) {
		t.Error(second)
	}
}

// What stands ahead of the promises: a part's block, byte for byte, with a sum that was reckoned elsewhere.
func TestBlock(t *testing.T) {
	s := mustStore(t, 3)
	j := mustOpen(t, s)
	mustAppend(t, j, []byte("a"), nil)
	want := block.Block{1, 0, 0, 0, 0, 1, 1, 'a'}
	copy(want[60:], []byte{154, 239, 255, 36})
	if got, e := s.Read(0); got != want || e != api.OK {
		t.Errorf("%v; wanted %v", got, want)
	}
	want = block.Block{2, 0, 0, 0, 0, 1, 0}
	copy(want[60:], []byte{71, 33, 199, 104})
	if got, e := s.Read(1); got != want || e != api.OK {
		t.Errorf("%v; wanted %v", got, want)
	}
}

// P20.2: records of each size at the edges, on a store that has just their blocks: all are there, and stand as they should, unsynced, synced, and opened anew.
func TestSizes(t *testing.T) {
	for _, size := range sizes() {
		blocks := len(slowBlocks(1, make([]byte, size)))
		h := hold(t, blocks)
		if e := h.append(record(7, size)); e != api.OK || h.j.Used() != blocks || h.s.Waiting() != blocks {
			t.Errorf("%d: %d, %d, %d", size, e, h.j.Used(), h.s.Waiting())
		}
		checkBlocks(t, h.s, [][]byte{record(7, size)})
		if e := h.append(nil); e != api.ErrFull {
			t.Error(size, e)
		}
		h.open()
		h.sync()
		h.crash()
		h.open()
		checkRecords(t, h.j, [][]byte{record(7, size)})
	}
}

// P20.2: a record that asks one block more than there are left: ErrFull, and nothing is another thing by it; with a block less it is there.
func TestOneMore(t *testing.T) {
	for _, size := range sizes() {
		blocks := len(slowBlocks(1, make([]byte, size)))
		for _, ahead := range [][][]byte{nil, records(5), records(60), records(0, 1, 107)} {
			used := len(allBlocks(ahead))
			if used+blocks == 1 {
				continue // no store has no block
			}
			h := hold(t, used+blocks-1)
			for _, b := range ahead {
				h.append(b)
			}
			h.sync()
			for _, more := range [][]byte{record(7, size), make([]byte, longest)} {
				if e := h.append(more); e != api.ErrFull || h.s.Waiting() != 0 {
					t.Errorf("%d behind %d: %d", len(more), used, e)
				}
			}
			if blocks == 1 {
				continue
			}
			if e := h.append(record(7, 53*(blocks-1))); e != api.OK || h.j.Fits(0) {
				t.Errorf("%d behind %d: %d", size, used, e)
			}
		}
	}
}

// P20.2: more bytes than a record may have: ErrArg, whatever room there is; nothing is another thing by it.
func TestTooLong(t *testing.T) {
	for _, blocks := range []int{1, 2, 254, 255, 256, 257, 600} {
		h := hold(t, blocks)
		for range 2 {
			for _, size := range []int{longest + 1, longest + 2, 13568, 14000, 1 << 16, 1<<16 + 1, 1 << 20} {
				if e := h.append(make([]byte, size)); e != api.ErrArg || h.s.Waiting() > 1 {
					t.Errorf("%d blocks, %d bytes: %d", blocks, size, e)
				}
			}
			h.append([]byte{1})
		}
	}
}

// P20.2: records behind one another, of all sizes at the edges in several orders: each stands behind the others.
func TestBehind(t *testing.T) {
	all := records(sizes()...)
	for range 3 {
		h := hold(t, 2000)
		for i, b := range all {
			if e := h.append(b); e != api.OK {
				t.Fatal(i, e)
			}
			checkRecords(t, h.j, all[:i+1])
		}
		checkBlocks(t, h.s, all)
		h.open()
		checkRecords(t, h.j, all)
		checkBlocks(t, h.s, all)
		slices.Reverse(all)
		all = append(all[5:], all[:5]...)
	}
}

// P20.2: the greatest store, filled by records of one block to its last one: their numbers need two bytes, and one more is refused.
func TestGreatestStore(t *testing.T) {
	s := mustStore(t, room)
	j := mustOpen(t, s)
	var want [][]byte
	for n := range room {
		want = append(want, record(n, n%54))
	}
	mustAppend(t, j, want...)
	if e := j.Append(nil); e != api.ErrFull || j.Fits(0) || s.Waiting() != room {
		t.Error(e, s.Waiting())
	}
	checkRecords(t, j, want)
	mustSync(t, j)
	if e := j.Append(nil); e != api.ErrFull || j.Fits(0) || s.Waiting() != 0 {
		t.Error(e, s.Waiting())
	}
	if e := j.Append(make([]byte, longest+1)); e != api.ErrArg {
		t.Error(e)
	}
	checkBlocks(t, s, want)
	checkRecords(t, mustOpen(t, s), want)
	for _, at := range []int{255, 256, 257, room - 1} {
		b, _ := s.Read(at)
		if !slices.Equal(b[:4], []byte{byte(at + 1), byte((at + 1) >> 8), 0, 0}) {
			t.Error(at, b[:4])
		}
	}
}

// P20.2: the greatest store, filled by the longest records: sixteen, and a row of one less than 17 asks.
func TestLongestRecords(t *testing.T) {
	s := mustStore(t, room)
	j := mustOpen(t, s)
	var want [][]byte
	for n := range 16 {
		want = append(want, record(n, longest))
	}
	mustAppend(t, j, want...)
	if e := j.Append(make([]byte, 53*16+1)); e != api.ErrFull {
		t.Error(e)
	}
	want = append(want, record(16, 53*16))
	mustAppend(t, j, want[16])
	if e := j.Append(nil); e != api.ErrFull {
		t.Error(e)
	}
	checkRecords(t, j, want)
	checkBlocks(t, s, want)
	checkRecords(t, mustOpen(t, s), want)
}

// P20.2: Fits at each number of blocks left, of every size where another block is needed, and of those that no record has; Append says the same.
func TestFits(t *testing.T) {
	s := mustStore(t, 300)
	j := mustOpen(t, s)
	for left := 300; left >= 0; left-- {
		most := min(53*left, longest)
		for parts := range 257 {
			for _, size := range []int{53*parts - 1, 53 * parts, 53*parts + 1} {
				if want := left > 0 && size >= 0 && size <= most; j.Fits(size) != want {
					t.Fatalf("%d with %d left: %v", size, left, !want)
				}
			}
		}
		for _, size := range wrongSizes() {
			if j.Fits(size) {
				t.Fatalf("%d with %d left", size, left)
			}
		}
		if left > 0 {
			mustAppend(t, j, record(left, left%54))
		}
	}
}

// P20.2: Fits asks nothing of what waits, and changes nothing: with no room for a write that waits there may be room for a record.
func TestFitsWhileFull(t *testing.T) {
	h := hold(t, 10)
	h.append(record(1, 60))
	h.fill(0)
	if !h.j.Fits(53*8) || h.j.Fits(53*8+1) || !h.j.Fits(0) {
		t.Error("another room")
	}
	if e := h.append(nil); e != api.ErrFull {
		t.Error(e)
	}
}

// P20.2: a store with room for fewer writes than a record has parts: its error; what was written of it stays written, and isn't counted. Behind a Sync it is written over.
func TestStoreFull(t *testing.T) {
	for parts := 1; parts <= 4; parts++ {
		for left := range parts {
			for _, next := range []int{0, 53, 54, 107, 160, 213} {
				h := hold(t, 8)
				h.append(record(1, 70))
				h.fill(left)
				b := record(2, 53*parts)
				if e := h.append(b); e != api.ErrFull || h.j.Used() != 2 || h.s.Waiting() != room {
					t.Fatalf("%d of %d: %d, %d, %d", left, parts, e, h.j.Used(), h.s.Waiting())
				}
				for i, want := range slowBlocks(2, b) {
					if got, _ := h.s.Read(2 + i); (got == want) != (i < left) {
						t.Fatalf("%d of %d: the part %d: %v", left, parts, i, got)
					}
				}
				if e := h.append(nil); e != api.ErrFull {
					t.Fatal(e)
				}
				h.sync()
				checkRecords(t, h.j, records(70))
				if e := h.append(record(3, next)); e != api.OK {
					t.Fatal(e)
				}
				h.sync()
				h.crash()
				h.open()
				checkRecords(t, h.j, [][]byte{record(1, 70), record(3, next)})
				checkBlocks(t, h.s, [][]byte{record(1, 70), record(3, next)})
			}
		}
	}
}

// P20.2: a record that a store had no room for is gone behind a crash, by any of its fates, and behind a Sync.
func TestStoreFullIsGone(t *testing.T) {
	for fate := range 9 {
		h := hold(t, 6)
		h.append(record(1, 70))
		h.sync()
		h.fill(2)
		h.append(record(2, 150))
		h.crash(append(make([]uint8, room-2), uint8(fate%3), uint8(fate/3))...)
		h.open()
		checkRecords(t, h.j, records(70))
		checkBlocks(t, h.s, records(70))
	}
	h := hold(t, 6)
	h.fill(2)
	h.append(record(2, 150))
	h.sync()
	h.open()
	checkRecords(t, h.j, nil)
	checkBlocks(t, h.s, nil)
	if h.s.Waiting() != 0 {
		t.Error(h.s.Waiting())
	}
}

// P20.2: what is appended waits until Sync, also by the store's own; behind Sync nothing waits, and all of it lasts.
func TestSync(t *testing.T) {
	h := hold(t, 20)
	h.sync()
	all := records(0, 60, 120, 53)
	waits := 0
	for i, b := range all {
		h.append(b)
		waits += len(slowBlocks(1, b))
		if h.s.Waiting() != waits {
			t.Errorf("%d wait; wanted %d", h.s.Waiting(), waits)
		}
		checkRecords(t, h.j, all[:i+1])
	}
	h.sync()
	h.sync()
	if h.s.Waiting() != 0 {
		t.Error(h.s.Waiting())
	}
	h.crash(2, 2, 2)
	h.open()
	checkRecords(t, h.j, all)
	h.append(record(9, 54))
	h.s.Sync()
	h.slow.s.sync()
	h.check()
	h.crash()
	h.open()
	checkRecords(t, h.j, append(all, record(9, 54)))
}
