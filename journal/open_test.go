package journal

import (
	"fmt"
	"slices"
	"testing"

	"lombard/api"
	"lombard/block"
)

// P20.1: no store: ErrArg, and no journal.
func TestOpenNil(t *testing.T) {
	if j, e := Open(nil); j != nil || e != api.ErrArg {
		t.Error(j, e)
	}
}

// P20.1: a new store has no records, whatever its size; nothing is written on it.
func TestOpenNew(t *testing.T) {
	for _, n := range []int{1, 2, 3, 254, 255, 256, room - 1, room} {
		s := mustStore(t, n)
		j := mustOpen(t, s)
		checkRecords(t, j, nil)
		if s.Waiting() != 0 || !j.Fits(0) || !j.Fits(min(longest, 53*n)) || j.Fits(53*n+1) {
			t.Error(n, s.Waiting())
		}
		checkBlocks(t, s, nil)
	}
}

// P20.1: a Store that New didn't make has no blocks: no records, and room for none.
func TestOpenNoBlocks(t *testing.T) {
	j := mustOpen(t, &block.Store{})
	checkRecords(t, j, nil)
	for size, want := range map[int]api.Errno{0: api.ErrFull, 1: api.ErrFull, longest: api.ErrFull, longest + 1: api.ErrArg} {
		if e := j.Append(make([]byte, size)); e != want || j.Fits(size) {
			t.Errorf("%d: %d; wanted %d", size, e, want)
		}
	}
	mustSync(t, j)
	checkRecords(t, j, nil)
}

// P20.1: behind each record a store is opened with all of them, those that wait, too; and records are appended behind them as if it weren't opened anew.
func TestOpenAnew(t *testing.T) {
	all := records(0, 1, 53, 54, 0, 106, 107, 300, 2, 52)
	for _, sync := range []bool{false, true} {
		s := mustStore(t, 30)
		for i, b := range all {
			j := mustOpen(t, s)
			checkRecords(t, j, all[:i])
			waits := s.Waiting()
			mustAppend(t, j, b)
			if n := s.Waiting() - waits; n != len(slowBlocks(1, b)) {
				t.Errorf("%d wait more", n)
			}
			if sync {
				mustSync(t, j)
			}
		}
		checkBlocks(t, s, all)
	}
}

// stop is a row of blocks that is no record, by one cause.
type stop struct {
	cause string
	row   []block.Block
	torn  int // the block that can't be read; -1: none
}

// changed is a row in which one block is another one, with a right sum.
func changed(row []block.Block, at int, change func(b *block.Block)) []block.Block {
	row = slices.Clone(row)
	change(&row[at])
	row[at] = sealed(row[at])
	return row
}

// turned are rows of which a bit of one block is turned, its sum's bits, too, and the sum isn't made anew.
func turned(row []block.Block) []stop {
	var l []stop
	for at := range row {
		for bit := range 512 {
			other := slices.Clone(row)
			other[at][bit/8] ^= 1 << (bit % 8)
			l = append(l, stop{fmt.Sprint("the bit ", bit, " of ", at), other, -1})
		}
		other := slices.Clone(row)
		other[at] = block.Block{}
		l = append(l, stop{fmt.Sprint("noughts at ", at), other, -1}, stop{fmt.Sprint("torn at ", at), row, at})
	}
	return l
}

// misnumbered are rows of which one block says another number, part, or number of parts. (One that says first that it is of one part is a record.)
func misnumbered(row []block.Block, number int) []stop {
	var l []stop
	for at := range row {
		add := func(cause string, change func(b *block.Block)) {
			l = append(l, stop{fmt.Sprint(cause, " at ", at), changed(row, at, change), -1})
		}
		for _, n := range []int{number - 1, number + 1, number + 256, number + 1<<16, number + 1<<24, number << 8, number << 24, -number, 1 << 31, -1} {
			add(fmt.Sprint("the number ", n), func(b *block.Block) {
				b[0], b[1], b[2], b[3] = byte(n), byte(n>>8), byte(n>>16), byte(n>>24)
			})
		}
		for n := range 256 {
			if n != at {
				add(fmt.Sprint("the part ", n), func(b *block.Block) { b[4] = byte(n) })
			}
			if n != len(row) && (n != 1 || at != 0) {
				add(fmt.Sprint("parts ", n), func(b *block.Block) { b[5] = byte(n) })
			}
		}
	}
	return l
}

// missized are rows of which one part says a number of bytes that it may not have, or has others than noughts behind its own.
func missized(row []block.Block) []stop {
	var l []stop
	for at := range row {
		last := at == len(row)-1
		own := int(row[at][6])
		for n := range 256 {
			may := n == 53
			if last {
				may = n <= 53 && (n > 0 || len(row) == 1)
			}
			if !may {
				l = append(l, stop{fmt.Sprint(n, " bytes at ", at), changed(row, at, func(b *block.Block) {
					b[6] = byte(n)
					clear(b[7+min(n, 53) : 60])
				}), -1})
			}
		}
		for n := 7 + own; n < 60; n++ {
			l = append(l, stop{fmt.Sprint("a byte at ", n, " of ", at), changed(row, at, func(b *block.Block) { b[n] = byte(n) }), -1})
		}
	}
	return l
}

// stops are all that the chapter names, of a record of that number.
func stops(number int, b []byte) []stop {
	row := slowBlocks(number, b)
	return slices.Concat(turned(row), misnumbered(row, number), missized(row))
}

// laid is a store on which rows stand from its first block on; all last.
func laid(t *testing.T, blocks int, rows ...[]block.Block) *block.Store {
	t.Helper()
	s := mustStore(t, blocks)
	mustWrite(t, s, 0, slices.Concat(rows...)...)
	s.Sync()
	return s
}

// checkStopped holds that a store's records are those, that it is wiped behind them, and that this lasts.
func checkStopped(t *testing.T, s *block.Store, want [][]byte, cause string) {
	t.Helper()
	j, e := Open(s)
	if e != api.OK || !equal(j.Records(), want) || j.Used() != len(allBlocks(want)) {
		t.Fatalf("%s: %d, %v; wanted %v", cause, e, told(j.Records()), told(want))
	}
	if s.Waiting() != 0 {
		t.Fatalf("%s: %d wait", cause, s.Waiting())
	}
	s.Crash(nil)
	checkBlocks(t, s, want)
}

// P20.1: each cause for which a block isn't the next part of the next record, of records of one part, of two, and of three, behind none, and behind some: the records are those ahead of it, also with more of them behind.
func TestStops(t *testing.T) {
	for _, ahead := range [][][]byte{nil, records(0), records(60, 1, 0)} {
		number := len(ahead) + 1
		for _, size := range []int{0, 20, 53, 70, 106, 126} {
			b := record(9, size)
			behind := slowBlocks(number+1, record(5, 3))
			there := slices.Concat(ahead, [][]byte{b, record(5, 3)})
			s := laid(t, 12, allBlocks(ahead), slowBlocks(number, b), behind)
			checkStopped(t, s, there, "as it should be")
			for _, stop := range stops(number, b) {
				s := laid(t, 12, allBlocks(ahead), stop.row, behind)
				if stop.torn >= 0 {
					tear(t, s, len(allBlocks(ahead))+stop.torn)
				}
				checkStopped(t, s, ahead, fmt.Sprintf("%d bytes behind %d: %s", size, len(ahead), stop.cause))
			}
		}
	}
}

// P20.1: what a part may be: the last one of any number of bytes to 53, one that has none where it is alone; a record of one part whose block stands ahead of other parts.
func TestMayBe(t *testing.T) {
	for size := range 54 {
		b := record(4, size)
		checkStopped(t, laid(t, 5, slowBlocks(1, b)), [][]byte{b}, fmt.Sprint(size))
		if size > 0 {
			b = record(4, 53+size)
			checkStopped(t, laid(t, 5, slowBlocks(1, b)), [][]byte{b}, fmt.Sprint(53+size))
		}
	}
	row := slowBlocks(1, record(4, 126))
	row = changed(row, 0, func(b *block.Block) { b[5] = 1 })
	checkStopped(t, laid(t, 5, row), [][]byte{record(4, 126)[:53]}, "one of one part")
}

// P20.1: noughts among a record's bytes, at its end, too, are its own.
func TestNoughtsInside(t *testing.T) {
	for _, size := range []int{1, 20, 53, 54, 106, 107} {
		checkStopped(t, laid(t, 5, slowBlocks(1, make([]byte, size))), [][]byte{make([]byte, size)}, fmt.Sprint(size))
	}
}

// P20.1: a record whose last parts would stand beyond the store's end isn't there; one that fills the store is.
func TestBeyondEnd(t *testing.T) {
	for _, ahead := range [][][]byte{nil, records(0), records(60, 1)} {
		used := len(allBlocks(ahead))
		for _, size := range []int{54, 107, 160, 5300, longest} {
			b := record(8, size)
			row := slowBlocks(len(ahead)+1, b)
			for _, short := range []int{1, 2, len(row) - 1} {
				there := row[:max(1, len(row)-short)]
				s := laid(t, used+len(there), allBlocks(ahead), there)
				checkStopped(t, s, ahead, fmt.Sprintf("%d bytes, %d short", size, short))
			}
			s := laid(t, used+len(row), allBlocks(ahead), row)
			checkStopped(t, s, append(slices.Clone(ahead), b), fmt.Sprint(size))
		}
	}
}

// P20.1: records that aren't the next ones, each whole: another number first, one left out, one twice, one behind a block of noughts.
func TestNotNext(t *testing.T) {
	all := records(60, 0, 5, 107)
	row := func(number int) []block.Block { return slowBlocks(number, all[number-1]) }
	gap := []block.Block{{}}
	check := func(want int, rows ...[]block.Block) {
		t.Helper()
		checkStopped(t, laid(t, 15, rows...), all[:want], "another one than the next")
	}
	check(4, row(1), row(2), row(3), row(4))
	check(0, row(2))
	check(0, row(2), row(1))
	check(0, slowBlocks(0, all[0]), row(1))
	check(1, row(1), row(3), row(4))
	check(1, row(1), row(1), row(2))
	check(2, row(1), row(2), row(4), row(3))
	check(0, gap, row(1), row(2))
	check(1, row(1), gap, row(2), row(3))
	check(3, row(1), row(2), row(3), gap, row(4))
	check(0, row(1)[1:], row(1)[:1])
	check(0, row(1)[:1], gap, row(1)[1:])
	check(0, row(1)[:1], row(2))
	check(3, row(1), row(2), row(3), row(4)[:2], row(4)[:1])
}

// P20.1: records to wipe behind, of blocks of each kind: noughts, others, torn. With one that isn't noughts all is synced, what waited, too; without one nothing is.
func TestWipe(t *testing.T) {
	for _, ahead := range [][][]byte{nil, records(60)} {
		used := len(allBlocks(ahead))
		for kinds := range 81 {
			h := hold(t, used+4)
			for _, b := range ahead {
				h.append(b)
			}
			h.sync()
			fates := []uint8{}
			for at := range 4 {
				kind := kinds / []int{1, 3, 9, 27}[at] % 3
				if kind > 0 {
					h.write(used+at, block.Block{9: byte(at + 1)})
					fates = append(fates, uint8(kind))
				}
			}
			h.crash(fates...)
			if used > 0 {
				b, _ := h.s.Read(0)
				h.write(0, b)
			}
			waits := h.s.Waiting()
			if kinds > 0 {
				waits = 0
			}
			for range 2 {
				h.open()
				if h.s.Waiting() != waits {
					t.Errorf("%d: %d wait", kinds, h.s.Waiting())
				}
				checkBlocks(t, h.s, ahead)
			}
			h.crash()
			checkBlocks(t, h.s, ahead)
		}
	}
}

// P20.1: each single bit of each block behind the records makes it one to wipe, whatever waits there.
func TestWipeBits(t *testing.T) {
	h := hold(t, 4)
	h.append(record(1, 9))
	h.sync()
	for bit := range 512 {
		var b block.Block
		b[bit/8] = 1 << (bit % 8)
		h.write(1+bit%3, b)
		h.open()
		if h.s.Waiting() != 0 {
			t.Error(bit, h.s.Waiting())
		}
		checkBlocks(t, h.s, records(9))
	}
}

// P20.1: what waits is what the store has: a record that waits is there, and keeps waiting if there is nothing to wipe; else it lasts with what is wiped.
func TestOpenWaiting(t *testing.T) {
	for _, dirty := range []bool{false, true} {
		h := hold(t, 8)
		h.append(record(1, 60))
		if dirty {
			h.write(7, block.Block{1})
		}
		h.open()
		checkRecords(t, h.j, records(60))
		if want := map[bool]int{false: 2, true: 0}[dirty]; h.s.Waiting() != want {
			t.Errorf("%d wait; wanted %d", h.s.Waiting(), want)
		}
		h.crash()
		h.open()
		if n := len(h.j.Records()); n != map[bool]int{false: 0, true: 1}[dirty] {
			t.Error(n)
		}
	}
}

// P20.1: a block of noughts that waits over another one is noughts, and nothing is to be wiped.
func TestNoughtsWait(t *testing.T) {
	h := hold(t, 4)
	h.write(2, block.Block{5})
	h.crash(1)
	h.write(2, block.Block{})
	h.open()
	if h.s.Waiting() != 1 {
		t.Error(h.s.Waiting())
	}
	h.crash(2)
	h.open()
	h.crash()
	checkBlocks(t, h.s, nil)
}

// P20.1: a store without room for a write of noughts: its error, and no journal; what was written stays, and isn't synced. With just so much room it is opened.
func TestOpenFull(t *testing.T) {
	for dirty := range 4 {
		for left := range 5 {
			h := hold(t, 8)
			h.append(record(1, 60))
			h.sync()
			for at := range dirty {
				h.write(3+at, block.Block{1})
			}
			h.s.Sync()
			h.slow.s.sync()
			h.fill(left)
			want, waits := api.OK, 0
			if dirty == 0 {
				waits = room - left
			}
			if dirty > left {
				want, waits = api.ErrFull, room
			}
			if e := h.open(); e != want || h.s.Waiting() != waits {
				t.Errorf("%d of %d: %d, %d; wanted %d, %d", left, dirty, e, h.s.Waiting(), want, waits)
			}
			h.crash()
			if e := h.open(); e != api.OK {
				t.Error(e)
			}
			checkRecords(t, h.j, records(60))
			checkBlocks(t, h.s, records(60))
		}
	}
}

// P20.1: the greatest store, with a torn block behind records, and others to its last block.
func TestOpenGreatest(t *testing.T) {
	s := mustStore(t, room)
	j := mustOpen(t, s)
	want := records(longest, 0, 60)
	mustAppend(t, j, want...)
	mustSync(t, j)
	tear(t, s, 258)
	for at := 259; at < room; at += 3 {
		mustWrite(t, s, at, block.Block{63: 1})
	}
	mustWrite(t, s, room-1, block.Block{1})
	s.Sync()
	checkStopped(t, s, want, "the greatest")
	tear(t, s, 200)
	checkStopped(t, s, nil, "the greatest, torn in its first record")
}
