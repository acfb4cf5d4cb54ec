package block

import (
	"math"
	"math/rand"
	"slices"
	"testing"

	"lombard/api"
)

const room = 4096

// wrongSizes are numbers of blocks that no store has; the last ones would be some, if all but their lowest bytes were cut off.
func wrongSizes() []int {
	return []int{-1, 0, room + 1, room + 2, -2, -room, math.MinInt, math.MaxInt, math.MinInt + 1, 1 << 16, 1<<16 + 1, 1 << 31, 1 << 32, 1<<32 + 1, 1<<62 + 5, -1 << 32}
}

// wrongPlaces are places that a store of so many blocks hasn't.
func wrongPlaces(blocks int) []int {
	return []int{-1, blocks, blocks + 1, -2, -blocks, 2*blocks + 1, math.MinInt, math.MaxInt, math.MinInt + 1, 1 << 16, 1 << 31, 1 << 32, 1<<32 + blocks - 1, -1 << 32}
}

// numbered is a block that is another one for each number; all of its bytes count.
func numbered(n int) Block {
	var b Block
	r := rand.New(rand.NewSource(int64(n)))
	r.Read(b[:])
	b[0], b[63] = byte(n), byte(n>>8)|128
	return b
}

// What became of a write.
const (
	isWaiting = "waits"
	isLasting = "lasts"
	isGone    = "gone"
	isTorn    = "torn"
)

// slowWrite is one that was written at any time, with what became of it.
type slowWrite struct {
	at int
	b  Block
	is string
}

// slowStore is the chapter word by word: it keeps all that was ever written, and tells each block from that.
type slowStore struct {
	blocks  int
	written []slowWrite
}

func (s *slowStore) has(at int) bool {
	return 0 <= at && at <= s.blocks-1
}

// all is what Read answers of each block.
func (s *slowStore) all() ([]Block, []api.Errno) {
	b, e := make([]Block, s.blocks), make([]api.Errno, s.blocks)
	for _, w := range s.written {
		switch w.is {
		case isWaiting, isLasting:
			b[w.at], e[w.at] = w.b, api.OK
		case isTorn:
			b[w.at], e[w.at] = Block{}, api.ErrSum
		}
	}
	return b, e
}

func (s *slowStore) waiting() int {
	n := 0
	for _, w := range s.written {
		if w.is == isWaiting {
			n++
		}
	}
	return n
}

func (s *slowStore) write(at int, b Block) api.Errno {
	if !s.has(at) {
		return api.ErrArg
	}
	if s.waiting() == 4096 {
		return api.ErrFull
	}
	s.written = append(s.written, slowWrite{at, b, isWaiting})
	return api.OK
}

func (s *slowStore) sync() {
	for i := range s.written {
		if s.written[i].is == isWaiting {
			s.written[i].is = isLasting
		}
	}
}

func (s *slowStore) crash(fates []uint8) {
	for i := range s.written {
		if s.written[i].is != isWaiting {
			continue
		}
		fate := 0
		if len(fates) > 0 {
			fate, fates = int(fates[0]), fates[1:]
		}
		for fate > 2 {
			fate -= 3
		}
		s.written[i].is = []string{isGone, isLasting, isTorn}[fate]
	}
}

// held is a store that is held against the chapter word by word behind each step.
type held struct {
	t    *testing.T
	s    *Store
	slow *slowStore
}

func mustNew(t *testing.T, blocks int) *Store {
	t.Helper()
	s, e := New(blocks)
	if s == nil || e != api.OK {
		t.Fatalf("%d blocks: %v, %d", blocks, s == nil, e)
	}
	return s
}

func hold(t *testing.T, blocks int) held {
	t.Helper()
	h := held{t, mustNew(t, blocks), &slowStore{blocks: blocks}}
	h.check()
	return h
}

// check holds all that can be asked against what it should be.
func (h held) check() {
	h.t.Helper()
	if n := h.s.Size(); n != h.slow.blocks {
		h.t.Fatalf("%d blocks; wanted %d", n, h.slow.blocks)
	}
	if n := h.s.Waiting(); n != h.slow.waiting() {
		h.t.Fatalf("%d wait; wanted %d", n, h.slow.waiting())
	}
	b, e := h.slow.all()
	for at := range b {
		if got, gotE := h.s.Read(at); got != b[at] || gotE != e[at] {
			h.t.Fatalf("%d: %v, %d; wanted %v, %d", at, got, gotE, b[at], e[at])
		}
	}
	if n := h.s.Waiting(); n != h.slow.waiting() {
		h.t.Fatalf("behind Read %d wait; wanted %d", n, h.slow.waiting())
	}
}

// put writes, and asks nothing else.
func (h held) put(at int, b Block) api.Errno {
	h.t.Helper()
	e := h.s.Write(at, b)
	if want := h.slow.write(at, b); e != want {
		h.t.Fatalf("Write at %d: %d; wanted %d", at, e, want)
	}
	return e
}

func (h held) write(at int, b Block) api.Errno {
	h.t.Helper()
	e := h.put(at, b)
	h.check()
	return e
}

func (h held) sync() {
	h.t.Helper()
	h.slow.sync()
	if e := h.s.Sync(); e != api.OK {
		h.t.Fatalf("Sync: %d", e)
	}
	h.check()
}

func (h held) crash(fates ...uint8) {
	h.t.Helper()
	was := slices.Clone(fates)
	h.slow.crash(was)
	if e := h.s.Crash(fates); e != api.OK {
		h.t.Fatalf("Crash of %v: %d", fates, e)
	}
	if !slices.Equal(fates, was) {
		h.t.Fatalf("Crash of %v: changed to %v", was, fates)
	}
	h.check()
}

// read holds one block against what it should be, apart from the chapter word by word.
func (h held) read(at int, b Block, want api.Errno) {
	h.t.Helper()
	if got, e := h.s.Read(at); got != b || e != want {
		h.t.Errorf("%d: %v, %d; wanted %v, %d", at, got, e, b, want)
	}
}

// waiting holds how many wait against how many should, apart from the chapter word by word.
func (h held) waiting(want int) {
	h.t.Helper()
	if n := h.s.Waiting(); n != want {
		h.t.Errorf("%d wait; wanted %d", n, want)
	}
}

// refused are all calls that may not be of a store that has blocks, with what else can be asked behind each.
func (h held) refused() {
	h.t.Helper()
	for _, at := range wrongPlaces(h.slow.blocks) {
		if b, e := h.s.Read(at); b != (Block{}) || e != api.ErrArg {
			h.t.Fatalf("Read of %d: %v, %d", at, b, e)
		}
		if e := h.put(at, numbered(9)); e != api.ErrArg {
			h.t.Fatalf("Write at %d: %d", at, e)
		}
	}
	h.check()
}

// someFates are for about so many writes: of any numbers, or of the least ones.
func someFates(r *rand.Rand, writes int) []uint8 {
	fates := make([]uint8, r.Intn(writes+3))
	most := []int{2, 3, 6, 256}[r.Intn(4)]
	for i := range fates {
		fates[i] = uint8(r.Intn(most))
	}
	return fates
}
