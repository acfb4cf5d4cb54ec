package loss

import (
	"math/rand"
	"runtime"
	"slices"
	"strconv"
	"sync"
	"sync/atomic"
	"testing"
	"time"

	"lombard/api"
)

// Rule 4: terms are as they were, with what lies beside them and in their spare room, whatever is answered.
func TestNotChanged(t *testing.T) {
	l := []Term{{least, most, -1}, plain(), {unit, unit, rich}, plain(), {}, {most, least, 7}, {-1, -2, -3}}
	was := slices.Clone(l)
	for _, part := range [][]Term{l[1:5], l[1:2], l[1:1], l[:3], l[3:], l, l[1:5:5]} {
		Check(part)
		for _, r := range []int64{0, tenth, top, -1} {
			Parts(part, r)
			Expect(part, r, 2)
			Stage(part, r, 1, 2)
			Stage(part, r, 3, 2)
		}
	}
	if !slices.Equal(l, was) {
		t.Error(l)
	}
	long := make([]Term, room+1, room+5)
	for _, n := range []int{7, room, room + 1} {
		Check(long[:n])
		Parts(long[:n], 0)
		Parts(long[:n], top)
		Expect(long[:n], 1, room)
		Stage(long[:n], 1, 2, 12)
	}
	if !slices.Equal(long[:room+5], make([]Term, room+5)) {
		t.Error("the long one was changed")
	}
}

// Rule 4: what is answered is new memory, its spare room too: it hangs neither on terms that are changed then, nor on another answer.
func TestNotShared(t *testing.T) {
	l := repeat(plain(), 5)
	want := []int64{50, 45, 40, 36, 33}
	first, _ := Parts(l, 0)
	second, _ := Parts(l, 0)
	part, _ := Parts(l[:3], 0)
	for i := range l {
		l[i] = Term{-7, -7, -7}
	}
	if !slices.Equal(first, want) || !slices.Equal(second, want) || !slices.Equal(part, want[:3]) {
		t.Error(first, second, part)
	}
	for i := range first[:cap(first)] {
		first[:cap(first)][i] = 9
	}
	if !slices.Equal(second, want) || !slices.Equal(part, want[:3]) {
		t.Error(second, part)
	}
	checkParts(t, repeat(plain(), 5), 0, want...)
}

// Rule 5: the same call answers the same, however often it is made, and on however many processors its goroutines run.
func TestSame(t *testing.T) {
	r := rand.New(rand.NewSource(10))
	l := someTerms(r, 41)
	want, wantE := slowParts(l, unit/90)
	defer runtime.GOMAXPROCS(runtime.GOMAXPROCS(0))
	for _, n := range []int{1, 2, 3, 8} {
		runtime.GOMAXPROCS(n)
		for range 100 {
			if got, e := Parts(l, unit/90); !slices.Equal(got, want) || e != wantE {
				t.Fatalf("on %d processors: %v, %d; wanted %v, %d", n, got, e, want, wantE)
			}
			if got, e := Parts(l, top); len(got) != 0 || e != api.ErrOver {
				t.Fatalf("on %d processors: %v, %d", n, got, e)
			}
		}
	}
}

// Rule 5: calls at the same time don't touch one another, though they share their terms.
func TestAtOnce(t *testing.T) {
	l := someTerms(rand.New(rand.NewSource(11)), 100)
	wants := make([][]int64, 8)
	for i := range wants {
		wants[i], _ = slowParts(l[:100-i], int64(i))
	}
	var joined sync.WaitGroup
	for i, want := range wants {
		joined.Go(func() {
			for range 50 {
				if got, e := Parts(l[:100-i], int64(i)); !slices.Equal(got, want) || e != api.OK {
					t.Errorf("%v, %d; wanted %v", told(got), e, told(want))
				}
				Expect(l, top, 3)
				Stage(l, 0, 2, 1)
				Parts([]Term{{}, {Of: -1}}, 0)
			}
		})
	}
	joined.Wait()
}

// Rule 5: a call that has answered reads its terms no more: they may be changed at once.
func TestChangedBehind(t *testing.T) {
	l := make([]Term, 21)
	for i := range 2000 {
		for j := range l {
			l[j] = Term{tenth, unit, int64(i + j)}
		}
		r := int64(0)
		if i%2 == 1 {
			r = top
		}
		want, wantE := slowParts(l[:i%22], r)
		if got, e := Parts(l[:i%22], r); !slices.Equal(got, want) || e != wantE {
			t.Fatalf("%d: %v, %d; wanted %v, %d", i, got, e, want, wantE)
		}
	}
}

// Rule 5: no goroutine is left behind, whatever the answer is. One that closed its channel may need a moment to be gone.
func TestNoneLeft(t *testing.T) {
	before := runtime.NumGoroutine()
	for range 50 {
		for _, n := range []int{0, 1, 2, 3, 6, 7, 8, 20, room + 1} {
			l := repeat(plain(), n)
			for _, r := range []int64{0, tenth, top, -1} {
				Parts(l, r)
				Expect(l, r, 1)
				Expect(l, r, -1)
				Stage(l, r, 1, 1)
				Stage(l, r, 0, 1)
			}
		}
	}
	for range 1000 {
		if runtime.NumGoroutine() <= before {
			return
		}
		time.Sleep(time.Millisecond)
	}
	t.Errorf("%d before, %d behind", before, runtime.NumGoroutine())
}

// The generic function itself, of another type: each place is reckoned once, and stands at its place; none is being reckoned any more behind it.
func TestGather(t *testing.T) {
	for _, n := range []int{0, 1, 2, 3, 4, 5, 10, 11, room} {
		asked := make([]atomic.Int32, n)
		var running atomic.Int32
		row := gather(n, func(at int) string {
			running.Add(1)
			defer running.Add(-1)
			asked[at].Add(1)
			return strconv.Itoa(at)
		})
		if len(row) != n || running.Load() != 0 {
			t.Fatalf("%d: %d, and %d run on", n, len(row), running.Load())
		}
		for at, what := range row {
			if what != strconv.Itoa(at) || asked[at].Load() != 1 {
				t.Fatalf("%d of %d: %q, asked %d times", at, n, what, asked[at].Load())
			}
		}
	}
}

// lastFirst reckons squares; those at even places (or at odd ones, as turn says) wait till all others are reckoned.
func lastFirst(t *testing.T, n, turn int) func(at int) int {
	var others atomic.Int32
	for at := range n {
		if at%2 != turn {
			others.Add(1)
		}
	}
	done := make(chan struct{})
	if others.Load() == 0 {
		close(done)
	}
	return func(at int) int {
		if at%2 != turn {
			if others.Add(-1) == 0 {
				close(done)
			}
			return at * at
		}
		select {
		case <-done:
		case <-time.After(20 * time.Second):
			t.Errorf("%d of %d waits in vain: the others aren't reckoned meanwhile", at, n)
		}
		return at * at
	}
}

// The chapter's way: two goroutines reckon at once; and rule 6 of the language: whichever hands over first, the row is the same.
func TestEitherFirst(t *testing.T) {
	for _, n := range []int{0, 1, 2, 3, 8, 9, 100} {
		want := make([]int, n)
		for i := range want {
			want[i] = i * i
		}
		for turn := range 2 {
			if got := gather(n, lastFirst(t, n, turn)); !slices.Equal(got, want) {
				t.Errorf("%d, turn %d: %v", n, turn, got)
			}
		}
	}
}

// Of several errors the first period's is told, and nothing beside it.
func TestFirstError(t *testing.T) {
	for _, x := range []struct {
		answers []answer
		e       api.Errno
	}{
		{[]answer{{e: api.ErrOver}, {e: api.ErrArg}}, api.ErrOver},
		{[]answer{{e: api.ErrArg}, {e: api.ErrOver}}, api.ErrArg},
		{[]answer{{part: 7}, {e: api.ErrZero}, {part: 8}, {e: api.ErrOver}}, api.ErrZero},
		{[]answer{{part: 7}, {part: 8, e: api.ErrOver}}, api.ErrOver},
	} {
		if got, e := firstError(x.answers); len(got) != 0 || e != x.e {
			t.Errorf("%v: %v, %d", x.answers, got, e)
		}
	}
	if got, e := firstError([]answer{{part: 7}, {part: 8}}); !slices.Equal(got, []int64{7, 8}) || e != api.OK {
		t.Error(got, e)
	}
}
