package loan

import (
	"math/rand"
	"slices"
	"sync"
	"testing"

	"lombard/api"
)

// walk is a loan on its way, with the sums of what its moves told.
type walk struct {
	loan Loan
	sums Move
}

// goOn makes a step, and holds P12.5 of it: what the Move tells is what the loan's sums rose by.
func (w *walk) goOn(t *testing.T, c call, amount int64) api.Errno {
	t.Helper()
	next, m, e := c.of(w.loan, amount)
	if e != api.OK {
		return e
	}
	rose := Move{next.Income - w.loan.Income, next.Received - w.loan.Received, next.Written - w.loan.Written, next.Recovered - w.loan.Recovered}
	if rose != m {
		t.Fatalf("%s of %d, %+v: rose by %+v; told %+v", c.name, amount, told(w.loan), rose, m)
	}
	if next.Id != w.loan.Id || next.Outlay != w.loan.Outlay || next.Rate != w.loan.Rate || next.Adjusted != w.loan.Adjusted {
		t.Fatalf("%s of %d made of %+v: %+v", c.name, amount, told(w.loan), told(next))
	}
	if !Right(next) {
		t.Fatalf("%s of %d made of %+v: %+v: it isn't right", c.name, amount, told(w.loan), told(next))
	}
	w.sums = Move{w.sums.Interest + m.Interest, w.sums.Paid + m.Paid, w.sums.Written + m.Written, w.sums.Recovered + m.Recovered}
	w.loan = next
	return api.OK
}

// checkEnd holds P12.5 of a loan that came to its end.
func (w *walk) checkEnd(t *testing.T) {
	t.Helper()
	l := w.loan
	if l.Gross != 0 || l.Due != 0 || l.Behind != 0 || len(l.Left) != 0 {
		t.Fatalf("it ended, and carries something: %+v", told(l))
	}
	if l.Income != l.Received+l.Written-l.Outlay-l.Adjusted {
		t.Fatalf("interest was lost, or made: %+v", l)
	}
	if w.sums != (Move{l.Income, l.Received, l.Written, l.Recovered}) {
		t.Fatalf("moves tell %+v in all; the loan has %+v", w.sums, l)
	}
}

// amountFor is what somebody might pay, or write off.
func amountFor(r *rand.Rand, l Loan) int64 {
	asked := l.Due
	if len(l.Left) > 0 {
		asked += l.Left[0]
	}
	switch r.Intn(6) {
	case 0:
		return 0
	case 1:
		return someAmount(r)
	case 2:
		return l.Gross >> r.Intn(10)
	case 3:
		return max(asked, 0) >> r.Intn(3)
	}
	return max(asked, 0)
}

// P12.5: any loans, from New to their ends, by any steps.
func TestToTheEnd(t *testing.T) {
	r := rand.New(rand.NewSource(5))
	ends := map[int]int{}
	for range 1500 {
		flows := someAmounts(r, 1+r.Intn(12))
		var sum int64
		for _, n := range flows {
			sum += n
		}
		l, e := New(r.Intn(ids), min(max(sum/2+r.Int63n(sum+1), 1), rich), flows)
		if e != api.OK {
			continue
		}
		w := walk{loan: l}
		for range 60 {
			c, amount := calls()[r.Intn(3)], amountFor(r, w.loan)
			if r.Intn(20) == 0 {
				c, amount = writeCall(), w.loan.Gross
			}
			checkSlow(t, c, w.loan, amount)
			w.goOn(t, c, amount)
			if w.loan.State != Live {
				break
			}
		}
		ends[w.loan.State]++
		if w.loan.State == Off {
			checkSlow(t, recoverCall(), w.loan, 7)
			if e := w.goOn(t, recoverCall(), 7); e != api.OK {
				t.Fatal(e)
			}
		}
		if w.loan.State != Live {
			w.checkEnd(t)
		}
	}
	if ends[Paid] < 300 || ends[Off] < 100 {
		t.Error("too few ended:", ends)
	}
}

// P12.5: each loan that is paid as it was to be is paid off by its last step, with all interest what is paid less the outlay.
func TestPaidAsPlanned(t *testing.T) {
	r := rand.New(rand.NewSource(6))
	made := 0
	for range 400 {
		flows := someAmounts(r, 1+r.Intn(40))
		var sum int64
		for _, n := range flows {
			sum += n
		}
		l, e := New(1, min(max(sum*9/10, 1), rich), flows)
		if e != api.OK {
			continue
		}
		w := walk{loan: l}
		for _, n := range flows {
			if e = w.goOn(t, stepCall(), n); e != api.OK {
				break
			}
		}
		if e != api.OK {
			continue // by what was rounded on the way more is paid than is carried
		}
		made++
		if w.loan.State != Paid || w.loan.Income != sum-l.Outlay {
			t.Fatalf("%d, %v: %+v", l.Outlay, flows, w.loan)
		}
		w.checkEnd(t)
	}
	if made < 200 {
		t.Error("too few are paid off:", made)
	}
}

// P12.5: in whatever order it is paid, all interest is the same, of a loan that is paid the same in all.
func TestPaidOtherwise(t *testing.T) {
	for _, way := range [][]struct {
		call   int
		amount int64
	}{
		{{0, 500}, {0, 605}},
		{{0, 0}, {0, 0}, {1, 1105}},
		{{0, 0}, {0, 1105}},
		{{0, 1}, {1, 499}, {0, 604}, {1, 0}, {1, 1}},
		{{1, 1000}, {0, 0}, {0, 105}},
		{{1, 500}, {0, 0}, {1, 500}, {0, 105}},
	} {
		l, _ := New(1, 1000, []int64{500, 605})
		w := walk{loan: l}
		for i, x := range way {
			if w.loan.State != Live {
				t.Fatalf("%v: ended at %d", way, i)
			}
			if e := w.goOn(t, calls()[x.call], x.amount); e != api.OK {
				t.Fatalf("%v: %d at %d", way, e, i)
			}
		}
		if w.loan.State != Paid || w.loan.Income != 105 || w.loan.Received != 1105 {
			t.Fatalf("%v: %+v", way, w.loan)
		}
		w.checkEnd(t)
	}
}

// P12.5: a loan of as many periods as there may be, nothing of which is paid: it is behind in each, until it is written off in two parts.
func TestLongest(t *testing.T) {
	flows := slices.Repeat([]int64{100}, room)
	l, e := New(1, 10000, flows)
	if e != api.OK {
		t.Fatal(e)
	}
	w := walk{loan: l}
	for i := range room {
		if e := w.goOn(t, stepCall(), 0); e != api.OK {
			t.Fatal(i, e)
		}
		if w.loan.Behind != i+1 || w.loan.Due != int64(100*(i+1)) || len(w.loan.Left) != room-i-1 || w.loan.State != Live {
			t.Fatalf("%d: %+v", i, told(w.loan))
		}
	}
	all := w.loan.Gross
	for _, amount := range []int64{all / 2, all - all/2} {
		if e := w.goOn(t, writeCall(), amount); e != api.OK {
			t.Fatal(e)
		}
	}
	w.checkEnd(t)
	if w.loan.State != Off || w.loan.Written != all {
		t.Error(w.loan)
	}
}

// P12.5: Adjusted counts, of a loan that was adjusted on its way.
func TestAdjusted(t *testing.T) {
	l := halfway()
	l.Left = []int64{100}
	end, _, e := Step(l, 130)
	if e != api.OK || end.Income != end.Received+end.Written-end.Outlay-end.Adjusted || end.Gross != 0 {
		t.Error(end, e)
	}
	off, _, e := Write(l, 900)
	if e != api.OK || off.Income != off.Received+off.Written-off.Outlay-off.Adjusted || off.Gross != 0 {
		t.Error(off, e)
	}
}

// Rule 4: flows and loans are as they were, with what lies beside them and in their spare room, whatever is answered.
func TestNotChanged(t *testing.T) {
	all := []int64{least, 100, 200, 300, most, -3}
	was := slices.Clone(all)
	for _, id := range []int{-1, 1} {
		New(id, 500, all[1:4])
		New(id, 500, all)
	}
	for _, amount := range []int64{-1, 0, 1, 30, 130, 900, 901, rich, most} {
		for _, part := range [][]int64{all[1:4], all[1:2], all[1:1], all[:2], all} {
			for _, state := range []int{Live, Off} {
				l := halfway()
				if state == Off {
					l = over(Off)
				}
				l.Left = part
				for _, c := range calls() {
					c.of(l, amount)
				}
				Right(l)
			}
		}
	}
	if !slices.Equal(all, was) {
		t.Error(all)
	}
}

// Rule 4: what is answered shares nothing with what was handed in, nor its spare room: each may be changed, and the other stays.
func TestNotShared(t *testing.T) {
	flows := make([]int64, 2, 9)
	copy(flows, []int64{500, 605})
	l, _ := New(1, 1000, flows)
	clear(flows[:cap(flows)])
	if !slices.Equal(l.Left, []int64{500, 605}) {
		t.Error(l)
	}
	for _, c := range calls() {
		for _, length := range []int{0, 1, 3} {
			room := []int64{100, 200, 300, 11, 12, 13}
			l := halfway()
			if c.state == Off {
				l, length = over(Off), 0
			}
			l.Left = room[:length]
			next, _, e := c.of(l, 20)
			if c.name == "Step" && length == 0 {
				continue
			}
			if e != api.OK {
				t.Fatal(c.name, length, e)
			}
			kept := slices.Clone(next.Left)
			for i := range room {
				room[i] = -7
			}
			if !slices.Equal(next.Left, kept) {
				t.Errorf("%s: %v", c.name, next.Left)
			}
			for i := range next.Left[:cap(next.Left)] {
				next.Left[:cap(next.Left)][i] = 5
			}
			if !slices.Equal(room, slices.Repeat([]int64{-7}, 6)) {
				t.Errorf("%s: %v", c.name, room)
			}
		}
	}
}

// Rule 5: calls at the same time don't touch one another, though they share loans; and once more they answer the same.
func TestAtOnce(t *testing.T) {
	live, off := halfway(), over(Off)
	var joined sync.WaitGroup
	for i := range int64(8) {
		joined.Go(func() {
			for range 50 {
				for _, c := range calls() {
					l := live
					if c.state == Off {
						l = off
					}
					want, wantM, wantE := c.slow(l, 20+i)
					if next, m, e := c.of(l, 20+i); !same(next, want) || m != wantM || e != wantE {
						t.Errorf("%s of %d: %+v, %+v, %d", c.name, 20+i, next, m, e)
					}
				}
			}
		})
	}
	joined.Wait()
}

// The generic type itself, of other types: what is checked, what is done and what is asked at its end come in that order, and each is handed what the one ahead of it made.
func TestStepType(t *testing.T) {
	s := step[string, int]{
		check: func(s string) api.Errno {
			if s == "" {
				return api.ErrNone
			}
			return api.OK
		},
		do: func(s string) (string, int) { return s + s, len(s) },
		end: func(s string) (string, api.Errno) {
			if len(s) > 4 {
				return s, api.ErrFull
			}
			return s + ".", api.OK
		},
	}
	for _, x := range []struct {
		ahead, next string
		moved       int
		e           api.Errno
	}{
		{"", "", 0, api.ErrNone},
		{"a", "aa.", 1, api.OK},
		{"ab", "abab.", 2, api.OK},
		{"abc", "", 0, api.ErrFull},
	} {
		if next, moved, e := s.take(x.ahead); next != x.next || moved != x.moved || e != x.e {
			t.Errorf("%q: %q, %d, %d", x.ahead, next, moved, e)
		}
	}
}

// The generic type itself: what is refused isn't done.
func TestStepTypeRefused(t *testing.T) {
	s := step[int, int]{check: func(int) api.Errno { return api.ErrState }}
	if next, moved, e := s.take(5); next != 0 || moved != 0 || e != api.ErrState {
		t.Error(next, moved, e)
	}
}
