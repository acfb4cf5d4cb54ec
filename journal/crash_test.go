package journal

import (
	"bytes"
	"math/rand"
	"slices"
	"testing"

	"lombard/api"
	"lombard/block"
)

// P20.3: the document's example: of a record of 2 blocks the second one goes in a crash: no record, and none of the first block either.
func TestSecondGoes(t *testing.T) {
	for _, fates := range [][]uint8{{1}, {1, 0}, {1, 2}, {0, 1}, {2, 1}, {0, 0}, nil} {
		h := hold(t, 5)
		h.append(bytes.Repeat([]byte("x"), 60))
		h.crash(fates...)
		h.open()
		checkRecords(t, h.j, nil)
		checkBlocks(t, h.s, nil)
		h.crash(1, 1)
		h.open()
		checkRecords(t, h.j, nil)
	}
}

// fatesOf are those that a number tells, for so many writes.
func fatesOf(number, writes int) []uint8 {
	var l []uint8
	for range writes {
		l = append(l, uint8(number%3))
		number /= 3
	}
	return l
}

func power(n, times int) int {
	p := 1
	for range times {
		p *= n
	}
	return p
}

// lasting is how many records last, in order, by the fates of their parts.
func lasting(l [][]byte, fates []uint8) int {
	at := 0
	for n, b := range l {
		for range slowBlocks(1, b) {
			if fates[at] != 1 {
				return n
			}
			at++
		}
	}
	return len(l)
}

// reopened holds that a store has those records, opened twice, and behind a crash with nothing that waits, by any fates.
func reopened(t *testing.T, s *block.Store, want [][]byte) *Journal {
	t.Helper()
	mustOpen(t, s)
	waits := s.Waiting()
	j := mustOpen(t, s)
	checkRecords(t, j, want)
	checkBlocks(t, s, want)
	if waits != 0 || s.Waiting() != 0 {
		t.Fatal(waits, s.Waiting())
	}
	s.Crash([]uint8{2, 1, 0, 2})
	j = mustOpen(t, s)
	checkRecords(t, j, want)
	checkBlocks(t, s, want)
	return j
}

// P20.3: each row of fates of some records of up to seven parts, behind none and behind some that were synced: there is just the beginning whose parts all lasted, with what was synced.
func TestAllFates(t *testing.T) {
	for _, synced := range [][][]byte{nil, records(60, 0)} {
		for _, sizes := range [][]int{{0}, {53}, {54}, {107}, {1, 1, 1}, {54, 0, 54}, {0, 107, 1}, {160}, {1, 2, 3, 4, 5, 6}, {54, 54, 54}, {0, 300}} {
			var waiting [][]byte
			for i, size := range sizes {
				waiting = append(waiting, record(100+i, size))
			}
			parts := len(allBlocks(waiting))
			for number := range power(3, parts) {
				s := mustStore(t, 12)
				j := mustOpen(t, s)
				mustAppend(t, j, synced...)
				mustSync(t, j)
				mustAppend(t, j, waiting...)
				fates := fatesOf(number, parts)
				s.Crash(fates)
				want := slices.Concat(synced, waiting[:lasting(waiting, fates)])
				reopened(t, s, want)
			}
		}
	}
}

// P20.3: behind a crash of a record of several parts, by any fates, another one of as many is appended, and a crash comes by any fates: the one that isn't there is never seen again, not even in parts.
func TestNothingComesBack(t *testing.T) {
	first, second, third := record(1, 150), record(2, 140), record(3, 107)
	for number := range 27 * 27 {
		s := mustStore(t, 4)
		mustAppend(t, mustOpen(t, s), first)
		one := fatesOf(number%27, 3)
		s.Crash(one)
		if lasting([][]byte{first}, one) == 1 {
			reopened(t, s, [][]byte{first})
			continue
		}
		j := reopened(t, s, nil)
		mustAppend(t, j, second)
		other := fatesOf(number/27, 3)
		s.Crash(other)
		want := [][]byte{second}[:lasting([][]byte{second}, other)]
		j = reopened(t, s, want)
		if len(want) == 1 {
			continue
		}
		mustAppend(t, j, third)
		s.Crash([]uint8{1, 1, uint8(number % 3)})
		reopened(t, s, [][]byte{third}[:lasting([][]byte{third}, []uint8{1, 1, uint8(number % 3)})])
	}
}

// P20.3: a shorter record behind a crash: what stood behind it of the one that isn't there is gone.
func TestShorterBehind(t *testing.T) {
	for number := range 81 {
		s := mustStore(t, 6)
		j := mustOpen(t, s)
		mustAppend(t, j, record(1, 3))
		mustSync(t, j)
		mustAppend(t, j, record(2, 53), record(3, 150))
		fates := fatesOf(number, 4)
		s.Crash(fates)
		want := [][]byte{record(1, 3), record(2, 53), record(3, 150)}
		want = want[:1+lasting(want[1:], fates)]
		j = reopened(t, s, want)
		if len(want) < 3 {
			mustAppend(t, j, nil)
			mustSync(t, j)
			reopened(t, s, append(want, nil))
		}
	}
}

// isBeginning says whether some records are the first of others.
func isBeginning(some, all [][]byte) bool {
	return len(some) <= len(all) && equal(some, all[:len(some)])
}

// P20.3: crash behind crash, by any fates: there is always a beginning of what was appended, with all that was synced.
func TestCrashBehindCrash(t *testing.T) {
	for seed := range int64(150) {
		r := rand.New(rand.NewSource(seed))
		s := mustStore(t, 1+r.Intn(60))
		j := mustOpen(t, s)
		var appended [][]byte
		synced := 0
		for n := range 60 {
			switch r.Intn(6) {
			default:
				b := record(n, r.Intn([]int{2, 54, 120, 400}[r.Intn(4)]))
				if e := j.Append(b); e == api.OK {
					appended = append(appended, b)
				} else if e != api.ErrFull || j.Fits(len(b)) {
					t.Fatal(seed, e)
				}
			case 0:
				mustSync(t, j)
				synced = len(appended)
			case 1:
				s.Crash(someFates(r, s.Waiting()))
				j = mustOpen(t, s)
				now := j.Records()
				if len(now) < synced || !isBeginning(now, appended) {
					t.Fatalf("%d: %v of %v, %d synced", seed, told(now), told(appended), synced)
				}
				reopened(t, s, now)
				appended, synced = now, len(now)
			}
			checkRecords(t, j, appended)
		}
	}
}

// P20.3: what is synced lasts through any number of crashes, whatever was appended and lost between.
func TestSyncedLasts(t *testing.T) {
	s := mustStore(t, 40)
	j := mustOpen(t, s)
	all := records(0, 60, 53, 200)
	mustAppend(t, j, all...)
	mustSync(t, j)
	for number := range 100 {
		mustAppend(t, j, record(number, 1+number*3))
		fates := fatesOf(number, 7)
		fates[0] = uint8(2 * (number % 2))
		s.Crash(fates)
		j = reopened(t, s, all)
	}
}

// P20.3: a crash in which all lasts is a Sync: all records are there.
func TestAllLasts(t *testing.T) {
	s := mustStore(t, 300)
	j := mustOpen(t, s)
	all := records(0, 60, longest, 53)
	mustAppend(t, j, all...)
	s.Crash(slices.Repeat([]uint8{1}, 259))
	j = reopened(t, s, all)
	mustAppend(t, j, record(9, 60))
	s.Crash([]uint8{4, 253})
	reopened(t, s, append(all, record(9, 60)))
}

// P20.3: of the longest record any one part that goes, or is torn, is enough: it isn't there.
func TestLongestCrashed(t *testing.T) {
	for at := range 255 {
		s := mustStore(t, 256)
		j := mustOpen(t, s)
		mustAppend(t, j, record(1, 5), record(2, longest))
		fates := slices.Repeat([]uint8{1}, 256)
		fates[1+at] = uint8(at % 2 * 2)
		s.Crash(fates)
		reopened(t, s, records(5))
	}
}
