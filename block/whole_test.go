package block

import (
	"math/rand"
	"slices"
	"sync"
	"testing"

	"lombard/api"
)

// What the chapter says of a nil Store: each answer is zero, and ErrNil, whatever it is asked.
func TestNil(t *testing.T) {
	var s *Store
	for _, at := range append(wrongPlaces(4), 0, 1, 3) {
		if b, e := s.Read(at); b != (Block{}) || e != api.ErrNil {
			t.Errorf("Read of %d: %v, %d", at, b, e)
		}
		for _, b := range []Block{{}, numbered(1)} {
			if e := s.Write(at, b); e != api.ErrNil {
				t.Errorf("Write at %d: %d", at, e)
			}
		}
	}
	for _, fates := range [][]uint8{nil, {}, {0}, {1}, {2, 255}, make([]uint8, room+1)} {
		if e := s.Crash(fates); e != api.ErrNil {
			t.Errorf("Crash of %d: %d", len(fates), e)
		}
	}
	if e := s.Sync(); e != api.ErrNil {
		t.Error(e)
	}
	if s.Size() != 0 || s.Waiting() != 0 {
		t.Error(s.Size(), s.Waiting())
	}
}

// P1: a Store that New didn't make has no blocks, and its calls end, too.
func TestNotNew(t *testing.T) {
	var s Store
	for _, at := range append(wrongPlaces(0), 0, 1, 3) {
		if b, e := s.Read(at); b != (Block{}) || e != api.ErrArg {
			t.Errorf("Read of %d: %v, %d", at, b, e)
		}
		if e := s.Write(at, numbered(1)); e != api.ErrArg {
			t.Errorf("Write at %d: %d", at, e)
		}
	}
	if s.Sync() != api.OK || s.Crash([]uint8{1, 2}) != api.OK || s.Size() != 0 || s.Waiting() != 0 {
		t.Error(s.Size(), s.Waiting())
	}
}

// Rule 4: fates are as they were, with what lies beside them and in their spare room, and aren't kept.
func TestFatesNotChanged(t *testing.T) {
	all := []uint8{7, 1, 2, 0, 255, 4, 3, 1, 1, 9}
	was := slices.Clone(all)
	for from := range all {
		for to := from; to <= len(all); to++ {
			s := mustNew(t, 3)
			for i := range 5 {
				s.Write(i%3, numbered(i))
			}
			s.Crash(all[from:to])
			s.Write(0, numbered(8))
			s.Crash(all[from:to:to])
		}
	}
	if !slices.Equal(all, was) {
		t.Error(all)
	}
	h := hold(t, 3)
	fates := []uint8{1, 2, 0}
	for range 2 {
		for i := range 3 {
			h.write(i, numbered(i))
		}
		h.crash(fates...)
		clear(fates)
		h.check()
		h.read(0, numbered(0), api.OK)
		h.read(1, Block{}, api.ErrSum)
		h.read(2, Block{}, api.OK)
	}
}

// Rule 4: a block that is handed in is as it was, and isn't kept; one that is handed out shares nothing with the store.
func TestBlocksNotShared(t *testing.T) {
	h := hold(t, 2)
	b := numbered(1)
	h.write(0, b)
	if b != numbered(1) {
		t.Error(b)
	}
	for range 3 {
		b[5]++
		h.check()
		h.read(0, numbered(1), api.OK)
		got, _ := h.s.Read(0)
		got[7]++
		clear(got[:])
		h.check()
		h.read(0, numbered(1), api.OK)
		h.sync()
	}
	h.write(0, b)
	h.write(1, b)
	clear(b[:])
	h.check()
	h.crash(1, 1)
	one, _ := h.s.Read(0)
	other, _ := h.s.Read(1)
	if one != other || one == b {
		t.Error(one, other)
	}
}

// Rule 5: two stores don't touch one another, whatever is done with one.
func TestTwo(t *testing.T) {
	for seed := range int64(20) {
		r := rand.New(rand.NewSource(seed))
		two := []held{hold(t, 5), hold(t, 5)}
		for n := range 200 {
			one := two[r.Intn(2)]
			switch r.Intn(8) {
			default:
				one.put(r.Intn(5), numbered(n))
			case 0:
				one.sync()
			case 1:
				one.crash(someFates(r, one.s.Waiting())...)
			}
			two[0].check()
			two[1].check()
		}
	}
}

// Rule 5: one store that is full leaves room in another.
func TestTwoFull(t *testing.T) {
	one, other := hold(t, 3), hold(t, 3)
	one.fill()
	one.full()
	other.write(0, numbered(1))
	other.waiting(1)
	other.fill()
	one.sync()
	one.write(1, numbered(2))
	other.full()
}

// Rule 5: what a store answers hangs on what was called of it alone: the same steps have the same answers.
func TestSameAnswers(t *testing.T) {
	one, other := mustNew(t, 12), mustNew(t, 12)
	for seed := range int64(50) {
		stepped(rand.New(rand.NewSource(seed)), one, 20)
		stepped(rand.New(rand.NewSource(seed)), other, 20)
		if !slices.Equal(look(one), look(other)) || one.Waiting() != other.Waiting() {
			t.Fatal(seed)
		}
	}
}

// Rule 5: calls on different stores at the same time don't touch one another, though they share the fates that are handed in.
func TestAtOnce(t *testing.T) {
	fates := []uint8{1, 2, 0, 1, 1, 5, 255, 4, 2, 1}
	var want []seen
	work := func(i int) []seen {
		s, _ := New(6)
		var all []seen
		for n := range 200 {
			s.Write((n+i)%6, numbered(n))
			switch n % 13 {
			case 6:
				s.Sync()
			case 12:
				s.Crash(fates)
			}
			all = append(all, look(s)...)
		}
		return all
	}
	for i := range 6 {
		want = append(want, work(i)...)
	}
	got := make([][]seen, 6)
	var joined sync.WaitGroup
	for i := range got {
		joined.Go(func() { got[i] = work(i) })
	}
	joined.Wait()
	if !slices.Equal(slices.Concat(got...), want) {
		t.Error("another answer at the same time")
	}
	for _, n := range wrongSizes() {
		joined.Go(func() {
			if s, e := New(n); s != nil || e != api.ErrArg {
				t.Errorf("%d: %d", n, e)
			}
		})
	}
	joined.Wait()
}

// drained is what a queue hands out, with the places that it tells.
func drained[T any](q *queue[T]) ([]T, []int) {
	var l []T
	var places []int
	q.empty(func(i int, x T) {
		l = append(l, x)
		places = append(places, i)
	})
	return l, places
}

// The generic type itself: what waits comes out once, in the order in which it came, of any type.
func TestQueue(t *testing.T) {
	var q queue[string]
	for range 2 {
		if _, ok := q.latest(func(string) bool { return true }); ok || q.size() != 0 {
			t.Error(q)
		}
		for i, x := range []string{"b", "a", "c", "a"} {
			q.put(x)
			if q.size() != i+1 {
				t.Error(q)
			}
		}
		if x, ok := q.latest(func(string) bool { return true }); x != "a" || !ok {
			t.Error(x, ok)
		}
		if x, ok := q.latest(func(x string) bool { return x != "a" }); x != "c" || !ok {
			t.Error(x, ok)
		}
		if x, ok := q.latest(func(x string) bool { return x == "d" }); x != "" || ok {
			t.Error(x, ok)
		}
		l, places := drained(&q)
		if !slices.Equal(l, []string{"b", "a", "c", "a"}) || !slices.Equal(places, []int{0, 1, 2, 3}) || q.size() != 0 {
			t.Error(l, places)
		}
		if l, _ := drained(&q); len(l) != 0 {
			t.Error(l)
		}
	}
}

// The generic type itself: the one that came last of many, by what is held against it alone.
func TestLatest(t *testing.T) {
	var q queue[seen]
	for i := range 300 {
		q.put(seen{e: api.Errno(i % 7), b: Block{byte(i), byte(i >> 8)}})
	}
	for n := range 7 {
		x, ok := q.latest(func(x seen) bool { return x.e == api.Errno(n) })
		if i := int(x.b[0]) + 256*int(x.b[1]); i < 293 || i%7 != n || !ok {
			t.Error(n, i, ok)
		}
	}
}
