package revise

import (
	"math/rand"
	"slices"
	"testing"

	"lombard/api"
	"lombard/loan"
)

// fresh is the loan that layer 12 makes.
func fresh(t *testing.T, id int, outlay int64, flows []int64) loan.Loan {
	t.Helper()
	l, e := loan.New(id, outlay, flows)
	if e != api.OK || l.Id != id || l.State != loan.Live || l.Gross != outlay || !slices.Equal(l.Left, flows) {
		t.Fatalf("the test is wrong: New of %d, %d, %v: %+v, %d", id, outlay, flows, l, e)
	}
	return l
}

// P13.3: by hand: a fair amount below, at and above Gross.
func TestReplaceNamed(t *testing.T) {
	for _, x := range []struct{ fair, gain int64 }{
		{950, -50}, {999, -1}, {1000, 0}, {1001, 1}, {1040, 40}, {100, -900},
	} {
		flows := []int64{1045}
		check(t, replaceCall(), ask{given(), 2, x.fair, flows}, answer{
			old:    loan.Loan{Id: 1, State: loan.Gone, Outlay: 1000, Rate: tenth, Adjusted: -1000},
			next:   fresh(t, 2, x.fair, flows),
			amount: x.gain,
		})
	}
}

// P13.3: of a loan on its way all that was stays, and nothing is carried or to come.
func TestReplaceHalfway(t *testing.T) {
	flows := []int64{500, 605}
	check(t, replaceCall(), ask{halfway(), 9, 950, flows}, answer{
		old:    loan.Loan{Id: 7, State: loan.Gone, Outlay: 1000, Rate: tenth, Income: 250, Received: 300, Adjusted: -920, Written: 30, Recovered: 40},
		next:   fresh(t, 9, 950, flows),
		amount: 50,
	})
}

// P13.3: whatever is Due, however long, and whatever is Left, nothing is then.
func TestReplaceDue(t *testing.T) {
	for _, due := range []int64{0, 1, -1, 30, -30, edge, -edge} {
		for _, behind := range []int{0, 1, 2, room} {
			for _, left := range [][]int64{nil, {}, {0}, {100, 200, 300}, slices.Repeat([]int64{rich}, room)} {
				a := usual()
				a.loan.Due, a.loan.Behind, a.loan.Left = due, behind, left
				got := checkTaken(t, replaceCall(), a)
				if got.old.Due != 0 || got.old.Behind != 0 || got.old.Left != nil || got.old.State != loan.Gone || got.amount != 50 {
					t.Errorf("%d, %d: %+v", due, behind, got)
				}
			}
		}
	}
}

// P13.3: a loan of which nothing is carried is taken off the books, too; all that is fair is gained.
func TestReplaceNothing(t *testing.T) {
	got := checkTaken(t, replaceCall(), ask{over(loan.Live), 9, 950, []int64{1045}})
	if got.old.Adjusted != -20 || got.amount != 950 || got.old.State != loan.Gone {
		t.Errorf("%+v", got)
	}
}

// P13.3: ids at the bounds, beyond and far; the id may be the old loan's own.
func TestReplaceIds(t *testing.T) {
	for _, id := range []int{0, 1, 7, ids - 2, ids - 1} {
		a := usual()
		a.id = id
		if got := checkTaken(t, replaceCall(), a); got.next.Id != id || got.old.Id != 7 {
			t.Errorf("%d: %+v", id, got)
		}
	}
	for _, id := range wrongIds() {
		a := usual()
		a.id = id
		checkRefused(t, replaceCall(), a, api.ErrArg)
		a.flows = []int64{1} // which would be ErrBracket
		checkRefused(t, replaceCall(), a, api.ErrArg)
	}
}

// P13.3: fair amounts at the bounds, beyond and far.
func TestReplaceFair(t *testing.T) {
	for _, fair := range []int64{1, 2, rich - 1, rich} {
		got := checkTaken(t, replaceCall(), ask{halfway(), 9, fair, []int64{fair}})
		if got.next.Outlay != fair || got.next.Gross != fair || got.amount != fair-900 {
			t.Errorf("%d: %+v", fair, got)
		}
	}
	for _, fair := range append(wrongFlows(), 0) {
		checkRefused(t, replaceCall(), ask{halfway(), 9, fair, []int64{1100}}, api.ErrArg)
	}
}

// P13.3: layer 12's errors of flows: none, none above 0, one more than there may be; as many as there may be are taken. Unlike what Test asks, a rate is sought for them.
func TestReplaceFlows(t *testing.T) {
	for _, flows := range [][]int64{nil, {}, make([]int64, 0, 5), {0}, {0, 0}, make([]int64, room), slices.Repeat([]int64{5}, room+1)} {
		checkRefused(t, replaceCall(), ask{halfway(), 9, 950, flows}, api.ErrArg)
	}
	for _, x := range []struct {
		fair, flow int64
		e          api.Errno
	}{
		{1000, 9, api.ErrBracket},
		{1000, 10, api.OK},
		{1000, 10999, api.OK},
		{1000, 11000, api.ErrBracket},
		{1, rich, api.ErrBracket},
		{rich, 1, api.ErrBracket},
	} {
		if e := checkSlow(t, replaceCall(), ask{halfway(), 9, x.fair, []int64{x.flow}}); e != x.e {
			t.Errorf("%+v: %d", x, e)
		}
	}
	if got := checkTaken(t, replaceCall(), ask{halfway(), 9, 950, slices.Repeat([]int64{10}, room)}); len(got.next.Left) != room {
		t.Errorf("%d Left", len(got.next.Left))
	}
}

// P13.3: the old loan's Rate doesn't count: at it these flows would be worth too much.
func TestReplaceRate(t *testing.T) {
	for _, r := range []int64{api.MinRate, 0, tenth, api.MaxRate} {
		a := ask{carrying(900, r), 9, 10000, slices.Repeat([]int64{100}, room)}
		if got := checkTaken(t, replaceCall(), a); got.old.Rate != r || got.next.Rate != fresh(t, 9, 10000, a.flows).Rate {
			t.Errorf("%d: %+v", r, got)
		}
	}
}

// P13.3: Adjusted that comes to its least, and one beyond it.
func TestReplaceBounds(t *testing.T) {
	for _, x := range []struct {
		gross, adjusted int64
		e               api.Errno
	}{
		{100, -edge + 100, api.OK},
		{100, -edge + 99, api.ErrOver},
		{100, -edge, api.ErrOver},
		{1, -edge + 1, api.OK},
		{1, -edge, api.ErrOver},
		{0, -edge, api.OK},
		{0, edge, api.OK},
		{edge, 0, api.OK},
		{edge, -1, api.ErrOver},
		{edge, edge, api.OK},
		{edge, 1, api.OK},
	} {
		a := ask{adjustedAt(x.gross, x.adjusted), 9, 950, []int64{1045}}
		if !loan.Right(a.loan) {
			t.Fatal("the test is wrong:", a.loan)
		}
		if x.e != api.OK {
			checkRefused(t, replaceCall(), a, x.e)
			continue
		}
		if got := checkTaken(t, replaceCall(), a); got.old.Adjusted != x.adjusted-x.gross || got.amount != 950-x.gross {
			t.Errorf("%+v: %+v", x, got)
		}
	}
}

// P13.3: what layer 12 refuses comes ahead of a loan that wouldn't be right.
func TestReplaceFirst(t *testing.T) {
	l := adjustedAt(100, -edge)
	checkRefused(t, replaceCall(), ask{l, 9, 950, []int64{1045}}, api.ErrOver)
	checkRefused(t, replaceCall(), ask{l, 9, 950, []int64{1}}, api.ErrBracket)
	checkRefused(t, replaceCall(), ask{l, -1, 950, []int64{1045}}, api.ErrArg)
	checkRefused(t, replaceCall(), ask{l, 9, 0, []int64{1045}}, api.ErrArg)
	checkRefused(t, replaceCall(), ask{l, 9, 950, nil}, api.ErrArg)
}

// P13.3, P1: any loans that are right, any flows, against the chapter's own words.
func TestReplaceAny(t *testing.T) {
	r := rand.New(rand.NewSource(3))
	told := map[api.Errno]int{}
	for range 1200 {
		l := adjustedAt(someAmount(r), r.Int63n(edge)-edge/2)
		if r.Intn(4) == 0 {
			l = adjustedAt(someAmount(r), someAmount(r)-edge)
		}
		l.Due, l.Behind = someAmount(r)-someAmount(r), r.Intn(room+1)
		a := ask{l, r.Intn(ids), max(someAmount(r), 1), someAmounts(r, 1+r.Intn(6))}
		if r.Intn(2) == 0 {
			a.fair = max(slices.Max(a.flows), 1)
		}
		switch r.Intn(12) {
		case 0:
			a.id = int(someNumber(r))
		case 1:
			a.fair = someNumber(r)
		case 2:
			a.flows[r.Intn(len(a.flows))] = someNumber(r)
		}
		told[checkSlow(t, replaceCall(), a)]++
	}
	if told[api.OK] < 300 || told[api.ErrOver] < 50 || told[api.ErrArg] < 100 || told[api.ErrBracket] < 100 {
		t.Error("too few:", told)
	}
}
