package journal

import (
	"bytes"
	"math/rand"
	"slices"
	"sync"
	"testing"

	"lombard/api"
	"lombard/block"
)

// What the chapter says of a nil Journal: each answer is zero, and ErrNil, whatever it is asked.
func TestNil(t *testing.T) {
	var j *Journal
	for _, size := range append(sizes(), longest+1, 1<<16) {
		if e := j.Append(make([]byte, size)); e != api.ErrNil {
			t.Errorf("Append of %d: %d", size, e)
		}
	}
	if e := j.Append(nil); e != api.ErrNil {
		t.Error(e)
	}
	if e := j.Sync(); e != api.ErrNil {
		t.Error(e)
	}
	for _, size := range append(sizes(), wrongSizes()...) {
		if j.Fits(size) {
			t.Errorf("Fits of %d", size)
		}
	}
	if j.Records() != nil || j.Used() != 0 {
		t.Error(j.Records(), j.Used())
	}
}

// P1: a Journal that Open didn't make is on no store, and its calls end, too.
func TestNotOpened(t *testing.T) {
	var j Journal
	for range 2 {
		for size, want := range map[int]api.Errno{0: api.ErrFull, 60: api.ErrFull, longest: api.ErrFull, longest + 1: api.ErrArg} {
			if e := j.Append(make([]byte, size)); e != want || j.Fits(size) {
				t.Errorf("%d: %d; wanted %d", size, e, want)
			}
		}
		if e := j.Sync(); e != api.ErrNil || len(j.Records()) != 0 || j.Used() != 0 {
			t.Error(e, j.Records(), j.Used())
		}
	}
}

// Rule 4: bytes that are handed in are as they were, with what lies beside them and in their spare room, taken or refused.
func TestNotChanged(t *testing.T) {
	all := record(1, longest+100)
	was := slices.Clone(all)
	s := mustStore(t, 600)
	j := mustOpen(t, s)
	for _, from := range []int{0, 1, 50} {
		for _, size := range append(sizes(), longest+1) {
			j.Append(all[from : from+size])
			j.Append(all[from : from+size : from+size])
		}
	}
	j.Sync()
	j.Records()
	mustOpen(t, s)
	if !slices.Equal(all, was) {
		t.Error("other bytes")
	}
}

// Rule 4: bytes that were handed in aren't kept: they are changed behind Append, and the record isn't.
func TestNotKept(t *testing.T) {
	s := mustStore(t, 20)
	j := mustOpen(t, s)
	want := records(0, 60, 53, 107)
	for _, b := range want {
		b = slices.Clone(b)
		mustAppend(t, j, b)
		clear(b[:cap(b)])
	}
	checkRecords(t, j, want)
	checkBlocks(t, s, want)
	mustSync(t, j)
	checkRecords(t, mustOpen(t, s), want)
}

// overwrite changes a list of bytes, and its spare room.
func overwrite(b []byte, x byte) {
	b = b[:cap(b)]
	for i := range b {
		b[i] = x
	}
}

// Rule 4: what Records hands out shares nothing with the journal, with what it hands out at another time, nor between its lists; spare room included.
func TestNotShared(t *testing.T) {
	want := records(0, 60, 5, 53, 107, 0, 1)
	for _, anew := range []bool{false, true} {
		s := mustStore(t, 20)
		j := mustOpen(t, s)
		mustAppend(t, j, want...)
		if anew {
			j = mustOpen(t, s)
		}
		one, other := j.Records(), j.Records()
		for i := range one {
			overwrite(one[i], byte(i))
		}
		for i, b := range one {
			if !bytes.Equal(b, slices.Repeat([]byte{byte(i)}, len(want[i]))) {
				t.Errorf("%d: %v", i, b)
			}
		}
		if !equal(other, want) {
			t.Error("another answer is another one")
		}
		one = one[:cap(one)]
		for i := range one {
			one[i] = nil
		}
		checkRecords(t, j, want)
		checkBlocks(t, s, want)
		mustAppend(t, j, record(9, 30))
		checkRecords(t, j, append(slices.Clone(want), record(9, 30)))
		if !equal(other, want) {
			t.Error("another answer is another one")
		}
	}
}

// Rule 3: nil and empty bytes are one.
func TestEmpty(t *testing.T) {
	s := mustStore(t, 4)
	j := mustOpen(t, s)
	mustAppend(t, j, nil, []byte{}, make([]byte, 9)[:0])
	checkRecords(t, j, [][]byte{{}, nil, {}})
	checkBlocks(t, s, [][]byte{{}, nil, {}})
	checkRecords(t, mustOpen(t, s), [][]byte{nil, {}, nil})
}

// Rule 5: two journals on two stores don't touch one another, whatever is done with one.
func TestTwo(t *testing.T) {
	for seed := range int64(30) {
		r := rand.New(rand.NewSource(seed))
		two := []*held{hold(t, 20), hold(t, 20)}
		for n := range 100 {
			two[r.Intn(2)].step(r, n)
			two[0].check()
			two[1].check()
		}
	}
}

// Rule 5: one store that is full leaves room in another.
func TestTwoFull(t *testing.T) {
	one, other := hold(t, 5), hold(t, 5)
	one.fill(0)
	if e := one.append(nil); e != api.ErrFull {
		t.Error(e)
	}
	if e := other.append(record(1, 60)); e != api.OK {
		t.Error(e)
	}
	one.check()
	one.sync()
	if other.s.Waiting() != 2 {
		t.Error(other.s.Waiting())
	}
	other.check()
}

// worked does some steps on a store of its own, and tells all that there was.
func worked(seed int64) []seen {
	r := rand.New(rand.NewSource(seed))
	s, _ := block.New(25)
	j, _ := Open(s)
	var all []seen
	for n := range 150 {
		e := j.Append(record(n, r.Intn(120)))
		all = append(all, seen{block.Block{byte(j.Used()), byte(len(j.Records()))}, e})
		switch r.Intn(8) {
		case 0:
			j.Sync()
		case 1:
			s.Crash(someFates(r, s.Waiting()))
			j, _ = Open(s)
		}
		all = append(all, look(s)...)
		for _, b := range j.Records() {
			overwrite(b, byte(n))
		}
	}
	return all
}

// Rule 5: what is answered hangs on what was called alone, also while other journals are worked on at the same time.
func TestAtOnce(t *testing.T) {
	var want [6][]seen
	for i := range want {
		want[i] = worked(int64(i % 3))
	}
	var got [6][]seen
	var joined sync.WaitGroup
	for i := range got {
		joined.Go(func() { got[i] = worked(int64(i % 3)) })
	}
	joined.Wait()
	for i := range got {
		if !slices.Equal(got[i], want[i]) || !slices.Equal(got[i], got[i%3]) {
			t.Error("another answer at the same time", i)
		}
	}
}

// The generic function itself: what is read in order, of any type, up to the first that isn't there; nothing behind that is asked, nor more than asked for.
func TestInOrder(t *testing.T) {
	for most := range 6 {
		for there := range 6 {
			var asked []int
			got := inOrder(most, func(n int) (string, bool) {
				asked = append(asked, n)
				return string(rune('a' + n)), n < there
			})
			if want := "abcdef"[:min(most, there)]; want != join(got) {
				t.Errorf("%d of %d: %v", there, most, got)
			}
			if want := []int{0, 1, 2, 3, 4, 5}[:min(most, there+1)]; !slices.Equal(asked, want) {
				t.Errorf("%d of %d: asked %v", there, most, asked)
			}
		}
	}
	type pair struct{ a, b int }
	if got := inOrder(3, func(n int) (pair, bool) { return pair{n, n * n}, true }); !slices.Equal(got, []pair{{0, 0}, {1, 1}, {2, 4}}) {
		t.Error(got)
	}
}

func join(l []string) string {
	all := ""
	for _, x := range l {
		all += x
	}
	return all
}
