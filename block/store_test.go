package block

import (
	"math/rand"
	"testing"

	"lombard/api"
)

// P19.1: each number of blocks at the bounds, and some between; a new store is noughts, and nothing waits.
func TestNew(t *testing.T) {
	for _, n := range []int{1, 2, 3, 63, 64, 65, 255, 256, 257, room - 1, room} {
		h := hold(t, n)
		if h.s.Size() != n {
			t.Errorf("%d; wanted %d", h.s.Size(), n)
		}
		h.waiting(0)
		for at := range n {
			h.read(at, Block{}, api.OK)
		}
		h.refused()
	}
	for _, n := range wrongSizes() {
		if s, e := New(n); s != nil || e != api.ErrArg {
			t.Errorf("%d: %v, %d", n, s != nil, e)
		}
	}
}

// P19.1: at every place of stores of several sizes a block is written, waits, is read as it was written last, and lasts.
func TestWriteReadSync(t *testing.T) {
	for _, n := range []int{1, 2, 64, 300} {
		h := hold(t, n)
		for at := range n {
			h.put(at, numbered(at))
			h.read(at, numbered(at), api.OK)
			h.waiting(at + 1)
		}
		h.check()
		h.sync()
		h.waiting(0)
		for at := range n {
			h.read(at, numbered(at), api.OK)
		}
		h.refused()
	}
}

// P19.1: the first and the last place of the greatest store, and those beside them.
func TestGreatest(t *testing.T) {
	h := hold(t, room)
	for _, at := range []int{0, 1, room - 2, room - 1} {
		if e := h.put(at, numbered(at)); e != api.OK {
			t.Error(at, e)
		}
	}
	h.check()
	h.refused()
	h.waiting(4)
	h.sync()
	h.read(room-1, numbered(room-1), api.OK)
	h.read(room-3, Block{}, api.OK)
	h.refused()
}

// P19.1: every byte of a block is kept, and every bit of it.
func TestBytes(t *testing.T) {
	h := hold(t, 2)
	for bit := range 8 * api.BlockSize {
		var b Block
		b[bit/8] = 1 << (bit % 8)
		h.write(1, b)
		h.read(1, b, api.OK)
		h.read(0, Block{}, api.OK)
		h.sync()
		h.read(1, b, api.OK)
	}
	var full Block
	for i := range full {
		full[i] = 255
	}
	h.write(0, full)
	h.write(1, Block{})
	h.sync()
	h.read(0, full, api.OK)
	h.read(1, Block{}, api.OK)
}

// P19.1: a block that is written over, before it is synced and behind that: the one that was written last is read.
func TestWrittenLast(t *testing.T) {
	h := hold(t, 3)
	for n := range 50 {
		h.write(1, numbered(n))
		h.read(1, numbered(n), api.OK)
		if n%7 == 6 {
			h.sync()
			h.read(1, numbered(n), api.OK)
		}
		h.waiting((n + 1) % 7)
	}
	h.write(1, numbered(5))
	h.write(0, numbered(6))
	h.write(2, numbered(7))
	h.write(1, numbered(8))
	h.read(0, numbered(6), api.OK)
	h.read(1, numbered(8), api.OK)
	h.read(2, numbered(7), api.OK)
	h.sync()
	h.read(1, numbered(8), api.OK)
	h.write(1, Block{})
	h.read(1, Block{}, api.OK)
}

// P19.1: writes of one and the same block wait each, though nothing is another one by them.
func TestSameAgain(t *testing.T) {
	h := hold(t, 2)
	for n := range 5 {
		h.write(0, Block{})
		h.waiting(n + 1)
	}
	h.sync()
	for n := range 5 {
		h.write(1, numbered(1))
		h.waiting(n + 1)
	}
	h.crash(0, 0, 0, 0, 1)
	h.read(1, numbered(1), api.OK)
}

// fill writes as many as may wait, all over a store.
func (h held) fill() {
	h.t.Helper()
	for i := range room - h.s.Waiting() {
		if e := h.s.Write(i%h.slow.blocks, numbered(i%300)); e != api.OK {
			h.t.Fatalf("%d: %d", i, e)
		}
		h.slow.written = append(h.slow.written, slowWrite{i % h.slow.blocks, numbered(i % 300), isWaiting})
	}
	h.waiting(room)
}

// full is one write more than may wait: it is refused, and so is one at a wrong place, by that; nothing is another one behind them.
func (h held) full() {
	h.t.Helper()
	for _, at := range []int{0, h.slow.blocks / 2, h.slow.blocks - 1} {
		if e := h.s.Write(at, numbered(7)); e != api.ErrFull {
			h.t.Fatalf("%d: %d", at, e)
		}
	}
	for _, at := range wrongPlaces(h.slow.blocks) {
		if e := h.s.Write(at, numbered(7)); e != api.ErrArg {
			h.t.Fatalf("%d: %d", at, e)
		}
	}
	h.waiting(room)
	h.check()
}

// P19.1: MaxBlocks writes that wait, whatever the store's size; then one more, until they are synced or crashed.
func TestFull(t *testing.T) {
	for _, n := range []int{1, 2, 5, 64} {
		h := hold(t, n)
		h.write(0, numbered(3))
		h.sync()
		h.fill()
		h.full()
		h.sync()
		h.fill()
		h.full()
		h.crash()
		h.waiting(0)
		h.write(n-1, numbered(8))
		h.waiting(1)
		h.fill()
		h.full()
		h.crash(1, 2, 1)
		h.fill()
		h.full()
		if e := h.s.Crash(someFates(rand.New(rand.NewSource(1)), room)); e != api.OK || h.s.Waiting() != 0 {
			t.Error(e, h.s.Waiting())
		}
		if e := h.s.Write(0, numbered(1)); e != api.OK || h.s.Waiting() != 1 {
			t.Error(e, h.s.Waiting())
		}
	}
}

// P19.1: the greatest store, each of its blocks written, with none, each third one, or all of them lasting.
func TestAllWritten(t *testing.T) {
	h := hold(t, room)
	h.fill()
	h.full()
	h.crash()
	for at := range room {
		h.read(at, Block{}, api.OK)
	}
	h.fill()
	fates := make([]uint8, room)
	for at := range fates {
		fates[at] = uint8(at % 3)
	}
	h.crash(fates...)
	h.read(room-3, numbered((room-3)%300), api.OK)
	h.read(room-2, Block{}, api.ErrSum)
	h.read(room-1, Block{}, api.OK)
	h.fill()
	h.sync()
	h.read(room-2, numbered((room-2)%300), api.OK)
}

// P19.1: nothing waits: Sync and Crash change nothing, however often, and whatever the fates are.
func TestNothingWaits(t *testing.T) {
	h := hold(t, 4)
	for range 2 {
		h.sync()
		h.sync()
		h.crash()
		h.crash([]uint8{}...)
		h.crash(0)
		h.crash(1, 2, 255)
		h.crash(2, 2, 2, 2, 2)
		h.waiting(0)
		h.write(0, numbered(1))
		h.write(1, numbered(2))
		h.crash(1, 2)
	}
	h.read(0, numbered(1), api.OK)
	h.read(1, Block{}, api.ErrSum)
	h.read(2, Block{}, api.OK)
}

// P19.1: what is refused changes nothing, among steps that aren't.
func TestRefused(t *testing.T) {
	for _, n := range []int{1, 3, 40} {
		h := hold(t, n)
		h.refused()
		h.write(0, numbered(1))
		h.write(n-1, numbered(2))
		h.refused()
		h.waiting(2)
		h.crash(2, 1)
		h.refused()
		h.write(0, numbered(3))
		h.refused()
		h.sync()
		h.refused()
		h.read(0, numbered(3), api.OK)
	}
}
