package block

import (
	"math/rand"
	"testing"

	"lombard/api"
)

// P19.2: the document's example: a block written, then a crash of 0, 1 or 2, or of no fates.
func TestCrashOne(t *testing.T) {
	for _, x := range []struct {
		fates []uint8
		b     Block
		e     api.Errno
	}{
		{nil, Block{}, api.OK},
		{[]uint8{}, Block{}, api.OK},
		{[]uint8{0}, Block{}, api.OK},
		{[]uint8{1}, numbered(5), api.OK},
		{[]uint8{2}, Block{}, api.ErrSum},
		{[]uint8{3}, Block{}, api.OK},
		{[]uint8{4}, numbered(5), api.OK},
		{[]uint8{5}, Block{}, api.ErrSum},
		{[]uint8{255}, Block{}, api.OK},
		{[]uint8{254}, Block{}, api.ErrSum},
		{[]uint8{253}, numbered(5), api.OK},
		{[]uint8{0, 1, 1}, Block{}, api.OK},
		{[]uint8{1, 2, 2}, numbered(5), api.OK},
		{[]uint8{2, 1, 0}, Block{}, api.ErrSum},
	} {
		for at := range 3 {
			h := hold(t, 3)
			h.write(at, numbered(5))
			h.crash(x.fates...)
			h.waiting(0)
			h.read(at, x.b, x.e)
			h.read((at+1)%3, Block{}, api.OK)
			h.read((at+2)%3, Block{}, api.OK)
		}
	}
}

// P19.2: each number as a fate: what it is by 3.
func TestEachFate(t *testing.T) {
	for n := range 256 {
		h := hold(t, 2)
		h.write(1, numbered(4))
		h.sync()
		h.write(1, numbered(5))
		h.write(0, numbered(6))
		h.crash(uint8(n), uint8(n))
		switch n % 3 {
		case 0:
			h.read(1, numbered(4), api.OK)
			h.read(0, Block{}, api.OK)
		case 1:
			h.read(1, numbered(5), api.OK)
			h.read(0, numbered(6), api.OK)
		case 2:
			h.read(1, Block{}, api.ErrSum)
			h.read(0, Block{}, api.ErrSum)
		}
	}
}

// powers is 3 so often by itself.
func powers(n int) int {
	if n == 0 {
		return 1
	}
	return 3 * powers(n-1)
}

// fatesOf are so many fates, each way of them another number, with some of their numbers a few times 3 greater.
func fatesOf(way, n int) []uint8 {
	fates := make([]uint8, n)
	for i := range fates {
		fates[i] = uint8(way%3 + 3*((way+i)%4)*28)
		way /= 3
	}
	return fates
}

// P19.2: several writes of one block that wait, with each order of fates, over noughts, over a block that lasts and over a torn one: the last one that doesn't go tells what the block is.
func TestEachOrder(t *testing.T) {
	for n := range 6 {
		for way := range powers(n) {
			for _, before := range [][]uint8{{0}, {1}, {2}} {
				h := hold(t, 2)
				h.write(1, numbered(100))
				h.crash(before...)
				b, e := h.s.Read(1)
				for i := range n {
					h.put(1, numbered(i))
				}
				fates := fatesOf(way, n)
				h.crash(fates...)
				for i, fate := range fates {
					switch fate % 3 {
					case 1:
						b, e = numbered(i), api.OK
					case 2:
						b, e = Block{}, api.ErrSum
					}
				}
				h.read(1, b, e)
				h.read(0, Block{}, api.OK)
			}
		}
	}
}

// P19.2: fates fewer than what waits, and more, for each number of both: those behind the last fate go.
func TestHowManyFates(t *testing.T) {
	for n := range 7 {
		for fates := range 10 {
			h := hold(t, 8)
			for i := range n {
				h.put(i, numbered(i))
			}
			all := make([]uint8, fates)
			for i := range all {
				all[i] = 1
			}
			h.crash(all...)
			for i := range 8 {
				if i < min(n, fates) {
					h.read(i, numbered(i), api.OK)
				} else {
					h.read(i, Block{}, api.OK)
				}
			}
			h.put(7, numbered(9))
			h.crash(0)
			h.read(7, Block{}, api.OK)
		}
	}
}

// P19.2: the fates are of writes in their order, not of blocks in theirs.
func TestInOrder(t *testing.T) {
	h := hold(t, 4)
	for i, at := range []int{3, 0, 2, 3, 1, 0} {
		h.write(at, numbered(i))
	}
	h.crash(1, 1, 2, 0, 1, 2)
	h.read(3, numbered(0), api.OK)
	h.read(0, Block{}, api.ErrSum)
	h.read(2, Block{}, api.ErrSum)
	h.read(1, numbered(4), api.OK)
}

// P19.2: a torn write ahead of one that lasts, and behind it, of one block and with others between.
func TestTornAheadAndBehind(t *testing.T) {
	h := hold(t, 2)
	h.write(0, numbered(1))
	h.write(1, numbered(2))
	h.write(0, numbered(3))
	h.crash(2, 0, 1)
	h.read(0, numbered(3), api.OK)
	h.write(0, numbered(4))
	h.write(1, numbered(5))
	h.write(0, numbered(6))
	h.crash(1, 1, 2)
	h.read(0, Block{}, api.ErrSum)
	h.read(1, numbered(5), api.OK)
	h.write(0, numbered(7))
	h.write(0, numbered(8))
	h.crash(2, 0)
	h.read(0, Block{}, api.ErrSum)
	h.write(0, numbered(9))
	h.write(0, numbered(10))
	h.crash(1, 0)
	h.read(0, numbered(9), api.OK)
}

// P19.2: a torn block that is written again isn't torn while that waits; a crash that lets it go leaves the block torn, one that lets it last, and a sync, mend it.
func TestTornAgain(t *testing.T) {
	for _, x := range []struct {
		end func(h held)
		b   Block
		e   api.Errno
	}{
		{func(h held) { h.crash() }, Block{}, api.ErrSum},
		{func(h held) { h.crash(0) }, Block{}, api.ErrSum},
		{func(h held) { h.crash(3, 1) }, Block{}, api.ErrSum},
		{func(h held) { h.crash(2) }, Block{}, api.ErrSum},
		{func(h held) { h.crash(1) }, numbered(2), api.OK},
		{func(h held) { h.sync() }, numbered(2), api.OK},
	} {
		for _, before := range []int{0, 1, 3} {
			h := hold(t, 2)
			for i := range before {
				h.write(0, numbered(20+i))
				h.sync()
			}
			h.write(0, numbered(1))
			h.crash(2)
			h.read(0, Block{}, api.ErrSum)
			h.sync()
			h.read(0, Block{}, api.ErrSum)
			h.write(1, numbered(7))
			h.sync()
			h.read(0, Block{}, api.ErrSum)
			h.write(0, numbered(2))
			h.read(0, numbered(2), api.OK)
			x.end(h)
			h.read(0, x.b, x.e)
			h.crash()
			h.read(0, x.b, x.e)
			h.read(1, numbered(7), api.OK)
		}
	}
}

// P19.2: a write that goes leaves the block as it lasts: not as an earlier write of the same crash that goes, nor as one of an earlier crash that went.
func TestGone(t *testing.T) {
	h := hold(t, 1)
	h.write(0, numbered(1))
	h.crash(0)
	h.read(0, Block{}, api.OK)
	h.write(0, numbered(2))
	h.sync()
	h.write(0, numbered(3))
	h.write(0, numbered(4))
	h.crash(0, 0)
	h.read(0, numbered(2), api.OK)
	h.sync()
	h.read(0, numbered(2), api.OK)
	h.crash(1, 1)
	h.read(0, numbered(2), api.OK)
}

// P19.2: what goes is gone: the fates of a later crash are of later writes.
func TestFatesAnew(t *testing.T) {
	h := hold(t, 3)
	h.write(0, numbered(1))
	h.write(1, numbered(2))
	h.sync()
	h.write(2, numbered(3))
	h.crash(1)
	h.read(2, numbered(3), api.OK)
	h.write(1, numbered(4))
	h.crash(0, 2, 2)
	h.read(1, numbered(2), api.OK)
	h.write(0, numbered(5))
	h.write(1, numbered(6))
	h.crash(2, 1)
	h.read(0, Block{}, api.ErrSum)
	h.read(1, numbered(6), api.OK)
	h.read(2, numbered(3), api.OK)
}

// step does one of several things with a store of two blocks.
func step(h held, kind, n int) {
	h.t.Helper()
	switch kind {
	case 0, 1:
		h.write(kind, numbered(n))
	case 2:
		h.sync()
	case 3:
		h.crash()
	case 4:
		h.crash(1)
	case 5:
		h.crash(2)
	case 6:
		h.crash(0, 1)
	case 7:
		h.crash(1, 2, 1)
	case 8:
		h.crash(2, 1, 0, 2)
	}
}

// P19.1, P19.2: every row of up to five steps.
func TestEachRow(t *testing.T) {
	const kinds = 9
	for row := range kinds * kinds * kinds * kinds * kinds {
		h := hold(t, 2)
		for n := range 5 {
			step(h, row%kinds, n+1)
			row /= kinds
		}
	}
}

// P19.1, P19.2: many steps of all kinds, one behind another; behind each all that can be asked.
func TestManySteps(t *testing.T) {
	for seed := range int64(60) {
		r := rand.New(rand.NewSource(seed))
		h := hold(t, []int{1, 2, 3, 7, 30}[seed%5])
		for n := range 300 {
			at := r.Intn(h.slow.blocks)
			switch r.Intn(12) {
			default:
				h.write(at, numbered(n))
			case 0:
				h.sync()
			case 1, 2:
				h.crash(someFates(r, h.s.Waiting())...)
			case 3:
				h.refused()
			}
		}
	}
}
