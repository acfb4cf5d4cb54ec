package journal

import (
	"bytes"
	"encoding/binary"
	"hash/crc32"
	"math"
	"math/rand"
	"slices"
	"testing"

	"lombard/api"
	"lombard/block"
)

const (
	room    = 4096
	longest = 13515
)

// sizes are of records at the edges: where a part is added, and the greatest one.
func sizes() []int {
	return []int{0, 1, 2, 52, 53, 54, 105, 106, 107, 158, 159, 160, 5300, 5301, 13461, 13462, 13463, longest - 1, longest}
}

// wrongSizes are of no record.
func wrongSizes() []int {
	return []int{-1, longest + 1, longest + 2, -2, -53, -longest, 13568, 13569, 1 << 16, 1 << 31, 1 << 32, 1<<32 + 1, math.MinInt, math.MinInt + 1, math.MaxInt, math.MaxInt - 1, math.MaxInt - 52, math.MaxInt - 53}
}

// record is one of so many bytes, another one for each seed; its last byte isn't 0.
func record(seed, size int) []byte {
	b := make([]byte, size)
	rand.New(rand.NewSource(int64(seed))).Read(b)
	if size > 0 {
		b[size-1] |= 1
	}
	return b
}

// records are of such sizes, each another one.
func records(sizes ...int) [][]byte {
	var l [][]byte
	for i, size := range sizes {
		l = append(l, record(i+1, size))
	}
	return l
}

func equal(a, b [][]byte) bool {
	return slices.EqualFunc(a, b, bytes.Equal)
}

// told is how long records are, for what a test says.
func told(l [][]byte) []int {
	n := []int{}
	for _, b := range l {
		n = append(n, len(b))
	}
	return n
}

// sealed has the first 60 bytes of a block, and their sum.
func sealed(b block.Block) block.Block {
	binary.LittleEndian.PutUint32(b[60:], crc32.ChecksumIEEE(b[:60]))
	return b
}

// slowBlock is a part's block, whatever it says.
func slowBlock(number uint32, part, parts, size byte, own []byte) block.Block {
	var b block.Block
	binary.LittleEndian.PutUint32(b[:], number)
	b[4], b[5], b[6] = part, parts, size
	copy(b[7:60], own)
	return sealed(b)
}

// slowBlocks are a record's.
func slowBlocks(number int, b []byte) []block.Block {
	parts := [][]byte{}
	for len(b) > 53 {
		parts, b = append(parts, b[:53]), b[53:]
	}
	parts = append(parts, b)
	var l []block.Block
	for i, own := range parts {
		l = append(l, slowBlock(uint32(number), byte(i), byte(len(parts)), byte(len(own)), own))
	}
	return l
}

// allBlocks are those of all records, one behind the other, from the number 1 on.
func allBlocks(l [][]byte) []block.Block {
	var all []block.Block
	for i, b := range l {
		all = append(all, slowBlocks(i+1, b)...)
	}
	return all
}

// seen is a block as Read answers it.
type seen struct {
	b block.Block
	e api.Errno
}

type slowWrite struct {
	at int
	b  block.Block
}

// slowStore is the chapter of the layer below word by word.
type slowStore struct {
	lasts []seen
	waits []slowWrite
}

// all is each block as Read answers it.
func (s *slowStore) all() []seen {
	l := slices.Clone(s.lasts)
	for _, w := range s.waits {
		l[w.at] = seen{w.b, api.OK}
	}
	return l
}

func (s *slowStore) write(at int, b block.Block) api.Errno {
	if len(s.waits) == room {
		return api.ErrFull
	}
	s.waits = append(s.waits, slowWrite{at, b})
	return api.OK
}

func (s *slowStore) sync() {
	s.lasts, s.waits = s.all(), nil
}

func (s *slowStore) crash(fates []uint8) {
	for i, w := range s.waits {
		switch {
		case i < len(fates) && fates[i]%3 == 1:
			s.lasts[w.at] = seen{w.b, api.OK}
		case i < len(fates) && fates[i]%3 == 2:
			s.lasts[w.at] = seen{block.Block{}, api.ErrSum}
		}
	}
	s.waits = nil
}

// slowJournal is the chapter word by word, on such a store.
type slowJournal struct {
	s       *slowStore
	records [][]byte
}

func (j *slowJournal) used() int {
	return len(allBlocks(j.records))
}

// slowRecord is what stands at the beginning of blocks as the record of that number: one whose blocks these are.
func slowRecord(l []seen, number int) ([]byte, bool) {
	if len(l) == 0 || len(l) < int(l[0].b[5]) {
		return nil, false
	}
	row := l[:l[0].b[5]]
	b := []byte{}
	for _, x := range row {
		if x.b[6] > 53 {
			return nil, false
		}
		b = append(b, x.b[7:7+x.b[6]]...)
	}
	want := slowBlocks(number, b)
	if len(want) != len(row) {
		return nil, false
	}
	for i, x := range row {
		if x.e != api.OK || x.b != want[i] {
			return nil, false
		}
	}
	return b, true
}

func slowOpen(s *slowStore) (*slowJournal, api.Errno) {
	j := &slowJournal{s: s}
	for {
		b, ok := slowRecord(s.all()[j.used():], len(j.records)+1)
		if !ok {
			break
		}
		j.records = append(j.records, b)
	}
	all := s.all()
	dirty := false
	for at := j.used(); at < len(all); at++ {
		if all[at] == (seen{}) {
			continue
		}
		if e := s.write(at, block.Block{}); e != api.OK {
			return nil, e
		}
		dirty = true
	}
	if dirty {
		s.sync()
	}
	return j, api.OK
}

func (j *slowJournal) append(b []byte) api.Errno {
	if len(b) > longest {
		return api.ErrArg
	}
	l := slowBlocks(len(j.records)+1, b)
	if j.used()+len(l) > len(j.s.lasts) {
		return api.ErrFull
	}
	for i, x := range l {
		if e := j.s.write(j.used()+i, x); e != api.OK {
			return e
		}
	}
	j.records = append(j.records, slices.Clone(b))
	return api.OK
}

func (j *slowJournal) fits(size int) bool {
	if size < 0 || size > longest {
		return false
	}
	return j.used()+len(slowBlocks(1, make([]byte, size))) <= len(j.s.lasts)
}

func mustStore(t *testing.T, blocks int) *block.Store {
	t.Helper()
	s, e := block.New(blocks)
	if e != api.OK {
		t.Fatal(blocks, e)
	}
	return s
}

func mustOpen(t *testing.T, s *block.Store) *Journal {
	t.Helper()
	j, e := Open(s)
	if j == nil || e != api.OK {
		t.Fatalf("%v, %d", j != nil, e)
	}
	return j
}

func mustAppend(t *testing.T, j *Journal, l ...[]byte) {
	t.Helper()
	for i, b := range l {
		if e := j.Append(b); e != api.OK {
			t.Fatalf("%d of %d bytes: %d", i, len(b), e)
		}
	}
}

func mustSync(t *testing.T, j *Journal) {
	t.Helper()
	if e := j.Sync(); e != api.OK {
		t.Fatal(e)
	}
}

func mustWrite(t *testing.T, s *block.Store, at int, l ...block.Block) {
	t.Helper()
	for i, b := range l {
		if e := s.Write(at+i, b); e != api.OK {
			t.Fatalf("%d: %d", at+i, e)
		}
	}
}

// tear has a block be one that can't be read; nothing may wait.
func tear(t *testing.T, s *block.Store, at int) {
	t.Helper()
	if s.Waiting() != 0 {
		t.Fatal(s.Waiting())
	}
	mustWrite(t, s, at, block.Block{})
	s.Crash([]uint8{2})
}

// look is each block of a store.
func look(s *block.Store) []seen {
	var l []seen
	for at := range s.Size() {
		b, e := s.Read(at)
		l = append(l, seen{b, e})
	}
	return l
}

// checkRecords holds a journal's records, and how many blocks they have, against what should be.
func checkRecords(t *testing.T, j *Journal, want [][]byte) {
	t.Helper()
	if got := j.Records(); !equal(got, want) {
		t.Fatalf("records of %v; wanted %v", told(got), told(want))
	}
	if n := len(allBlocks(want)); j.Used() != n {
		t.Fatalf("%d used; wanted %d", j.Used(), n)
	}
}

// checkBlocks holds all of a store's blocks against records, and noughts behind them.
func checkBlocks(t *testing.T, s *block.Store, want [][]byte) {
	t.Helper()
	l := allBlocks(want)
	for at, got := range look(s) {
		var b block.Block
		if at < len(l) {
			b = l[at]
		}
		if got != (seen{b, api.OK}) {
			t.Fatalf("%d: %v; wanted %v", at, got, b)
		}
	}
}

// held is a journal and its store, held against the chapter word by word behind each step.
type held struct {
	t    *testing.T
	s    *block.Store
	j    *Journal
	slow *slowJournal
}

func hold(t *testing.T, blocks int) *held {
	t.Helper()
	s := mustStore(t, blocks)
	slow, _ := slowOpen(&slowStore{lasts: make([]seen, blocks)})
	h := &held{t, s, mustOpen(t, s), slow}
	h.check()
	return h
}

// checkStore holds all that can be asked of the store.
func (h *held) checkStore() {
	h.t.Helper()
	if n := h.s.Waiting(); n != len(h.slow.s.waits) {
		h.t.Fatalf("%d wait; wanted %d", n, len(h.slow.s.waits))
	}
	all := h.slow.s.all()
	for at, got := range look(h.s) {
		if got != all[at] {
			h.t.Fatalf("%d: %v; wanted %v", at, got, all[at])
		}
	}
}

// check holds all that can be asked against what it should be.
func (h *held) check() {
	h.t.Helper()
	h.checkStore()
	checkRecords(h.t, h.j, h.slow.records)
	left := h.s.Size() - h.slow.used()
	for _, size := range append(wrongSizes(), 0, 53*left-53, 53*left-52, 53*left, 53*left+1, longest) {
		if got, want := h.j.Fits(size), h.slow.fits(size); got != want {
			h.t.Fatalf("Fits of %d with %d left: %v", size, left, got)
		}
	}
	h.checkStore()
}

func (h *held) append(b []byte) api.Errno {
	h.t.Helper()
	e := h.j.Append(b)
	if want := h.slow.append(b); e != want {
		h.t.Fatalf("Append of %d bytes: %d; wanted %d", len(b), e, want)
	}
	h.check()
	return e
}

func (h *held) sync() {
	h.t.Helper()
	h.slow.s.sync()
	mustSync(h.t, h.j)
	h.check()
}

// open opens the store anew; where that is refused, the journal is as it was.
func (h *held) open() api.Errno {
	h.t.Helper()
	j, e := Open(h.s)
	slow, want := slowOpen(h.slow.s)
	if e != want || (j == nil) != (e != api.OK) {
		h.t.Fatalf("Open: %v, %d; wanted %d", j != nil, e, want)
	}
	if e == api.OK {
		h.j, h.slow = j, slow
	}
	h.check()
	return e
}

// crash leaves the journal that was there as it was.
func (h *held) crash(fates ...uint8) {
	h.t.Helper()
	h.slow.s.crash(fates)
	if e := h.s.Crash(fates); e != api.OK {
		h.t.Fatal(e)
	}
	h.check()
}

func (h *held) write(at int, b block.Block) {
	h.t.Helper()
	e := h.s.Write(at, b)
	if want := h.slow.s.write(at, b); e != want {
		h.t.Fatalf("Write at %d: %d; wanted %d", at, e, want)
	}
}

// fill leaves room for so many writes.
func (h *held) fill(left int) {
	h.t.Helper()
	at := h.s.Size() - 1
	b, e := h.s.Read(at)
	if e != api.OK {
		h.t.Fatal(at, e)
	}
	for h.s.Waiting() < room-left {
		h.write(at, b)
	}
	h.check()
}

// someFates are for about so many writes.
func someFates(r *rand.Rand, writes int) []uint8 {
	fates := make([]uint8, r.Intn(writes+3))
	most := []int{2, 3, 6, 256}[r.Intn(4)]
	for i := range fates {
		fates[i] = uint8(r.Intn(most))
	}
	return fates
}
