package revise

import (
	"math/rand"
	"slices"
	"testing"

	"lombard/api"
	"lombard/loan"
)

// P13.2: by hand, the document's example first.
func TestCatchUpNamed(t *testing.T) {
	next := given()
	next.Gross, next.Adjusted, next.Left = 1009, 9, []int64{1110}
	check(t, catchCall(), ask{loan: given(), flows: []int64{1110}}, answer{next: next, amount: 9})

	next.Gross, next.Adjusted, next.Left = 900, -100, []int64{990}
	check(t, catchCall(), ask{loan: given(), flows: []int64{990}}, answer{next: next, amount: -100})

	next.Gross, next.Adjusted, next.Left = 1000, 0, []int64{0, 1210, 0}
	check(t, catchCall(), ask{loan: given(), flows: []int64{0, 1210, 0}}, answer{next: next, amount: 0})

	next.Gross, next.Adjusted, next.Left = 1100, 100, []int64{1210}
	check(t, catchCall(), ask{loan: given(), flows: []int64{1210}}, answer{next: next, amount: 100}) // though it is another loan
}

// P13.2: of a loan on its way all that was stays, and what is to come is another thing.
func TestCatchUpHalfway(t *testing.T) {
	check(t, catchCall(), ask{loan: halfway(), flows: []int64{550, 605}}, answer{
		next:   loan.Loan{Id: 7, State: loan.Live, Outlay: 1000, Rate: tenth, Gross: 1000, Income: 250, Received: 300, Adjusted: 80, Written: 30, Recovered: 40, Left: []int64{550, 605}},
		amount: 100,
	})
}

// P13.2: whatever is Due, and however long, nothing is then; nor does it change what the loan is worth.
func TestCatchUpDue(t *testing.T) {
	for _, due := range []int64{0, 1, -1, 30, -30, edge, -edge} {
		for _, behind := range []int{0, 1, 2, room} {
			l := halfway()
			l.Due, l.Behind = due, behind
			got := checkTaken(t, catchCall(), ask{loan: l, flows: []int64{1100}})
			if got.next.Due != 0 || got.next.Behind != 0 || got.next.Gross != 1000 || got.amount != 100 {
				t.Errorf("%d, %d: %+v", due, behind, got)
			}
		}
	}
}

// P13.2: flows that are worth nothing are refused, and those that are worth 1 aren't.
func TestCatchUpLeast(t *testing.T) {
	for _, x := range []struct {
		r     int64
		flows []int64
		worth int64
	}{
		{tenth, []int64{0}, 0},
		{tenth, make([]int64, room), 0},
		{unit, []int64{1}, 0}, // a half, to the even one
		{unit + 1, []int64{1}, 0},
		{unit - 1, []int64{1}, 1},
		{unit, []int64{2}, 1},
		{api.MaxRate, []int64{5}, 0},
		{api.MaxRate, []int64{6}, 1},
		{tenth, append(make([]int64, 100), 4), 4}, // each time it is rounded up again
		{0, []int64{1}, 1},
		{0, append(make([]int64, room-1), 1), 1},
		{api.MinRate, []int64{0}, 0},
	} {
		for _, l := range []loan.Loan{carrying(900, x.r), carrying(0, x.r), carrying(1, x.r)} {
			a := ask{loan: l, flows: x.flows}
			if x.worth == 0 {
				check(t, testCall(), a, answer{worth: 0, other: true})
				checkRefused(t, catchCall(), a, api.ErrArg)
				continue
			}
			if got := checkTaken(t, catchCall(), a); got.next.Gross != x.worth || got.amount != x.worth-l.Gross {
				t.Errorf("%+v: %+v", x, got)
			}
		}
	}
}

// P13.2: a loan of which nothing is carried, and nothing Left, may be caught up to something.
func TestCatchUpFromNothing(t *testing.T) {
	got := checkTaken(t, catchCall(), ask{loan: over(loan.Live), flows: []int64{1100}})
	if got.next.Gross != 1000 || got.amount != 1000 || got.next.Adjusted != 980 {
		t.Errorf("%+v", got)
	}
}

// adjustedAt is a Live loan, at the rate 0, of that Gross and that Adjusted, whose other sums make it right: of a great Outlay where the Income would be too great else.
func adjustedAt(gross, adjusted int64) loan.Loan {
	l := loan.Loan{Id: 3, State: loan.Live, Outlay: 1, Gross: gross, Adjusted: adjusted, Left: []int64{5}}
	if adjusted < 0 {
		l.Outlay = rich
	}
	rest := gross - l.Outlay - adjusted
	l.Income, l.Received = max(rest, 0), max(-rest, 0)/2
	l.Written = max(-rest, 0) - l.Received
	return l
}

// P13.2: Adjusted that comes to each of its bounds, and one beyond it; Gross that comes to its bound, and beyond.
func TestCatchUpBounds(t *testing.T) {
	for _, x := range []struct {
		name            string
		gross, adjusted int64
		worth           int64
		e               api.Errno
	}{
		{"Adjusted to its greatest", 100, edge - 50, 150, api.OK},
		{"Adjusted beyond it", 100, edge - 50, 151, api.ErrOver},
		{"Adjusted at its greatest stays", 100, edge, 100, api.OK},
		{"Adjusted at its greatest rises", 100, edge, 101, api.ErrOver},
		{"Adjusted at its greatest falls", 100, edge, 99, api.OK},
		{"Adjusted to its least", 100, -edge + 50, 50, api.OK},
		{"Adjusted beyond its least", 100, -edge + 50, 49, api.ErrOver},
		{"Adjusted at its least stays", 100, -edge, 100, api.OK},
		{"Adjusted at its least falls", 100, -edge, 99, api.ErrOver},
		{"Adjusted at its least rises", 100, -edge, 101, api.OK},
		{"all falls that may", edge, -1, 1, api.OK},
		{"more falls than may", edge, -2, 1, api.ErrOver},
		{"Gross to its greatest", 100, 0, edge, api.OK},
		{"Gross beyond it", 100, -1000, edge + 1, api.ErrOver},
		{"Gross and Adjusted to their greatest", 100, 100, edge, api.OK},
		{"Adjusted beyond it, Gross at it", 100, 101, edge, api.ErrOver},
		{"Gross far beyond it", 100, -edge, 2 * edge, api.ErrOver},
		{"Gross stays at its greatest", edge, 0, edge, api.OK},
	} {
		t.Run(x.name, func(t *testing.T) {
			a := ask{loan: adjustedAt(x.gross, x.adjusted), flows: summing(x.worth)}
			if !loan.Right(a.loan) {
				t.Fatal("the test is wrong:", a.loan)
			}
			if x.e != api.OK {
				checkTaken(t, testCall(), a)
				checkRefused(t, catchCall(), a, x.e)
				return
			}
			got := checkTaken(t, catchCall(), a)
			if got.next.Gross != x.worth || got.amount != x.worth-x.gross || got.next.Adjusted != x.adjusted+x.worth-x.gross {
				t.Errorf("%+v", got)
			}
		})
	}
}

// P13.2: a worth up to layer 9's bound is far too great for a loan, whatever is Adjusted.
func TestCatchUpFar(t *testing.T) {
	for _, adjusted := range []int64{-edge, -1, 0, 1, edge} {
		for _, gross := range []int64{0, 1, 900} {
			l := adjustedAt(gross, adjusted)
			l.Rate = -unit / 2
			a := ask{loan: l, flows: doubling(0, 1<<42)}
			check(t, testCall(), a, answer{worth: 1 << 62, other: true})
			checkRefused(t, catchCall(), a, api.ErrOver)
		}
	}
}

// P13.2: a worth of nothing comes ahead of a loan that wouldn't be right.
func TestCatchUpFirst(t *testing.T) {
	checkRefused(t, catchCall(), ask{loan: adjustedAt(100, -edge), flows: []int64{0}}, api.ErrArg)
	checkRefused(t, catchCall(), ask{loan: adjustedAt(100, -edge), flows: []int64{1}}, api.ErrOver)
}

// P13.2: as many flows as there may be are Left then.
func TestCatchUpLongest(t *testing.T) {
	got := checkTaken(t, catchCall(), ask{loan: halfway(), flows: slices.Repeat([]int64{100}, room)})
	if len(got.next.Left) != room || got.next.Gross != 995 {
		t.Errorf("%d Left, %d", len(got.next.Left), got.next.Gross)
	}
}

// P13.2, P1: any loans that are right, any flows, against the chapter's own words.
func TestCatchUpAny(t *testing.T) {
	r := rand.New(rand.NewSource(2))
	told := map[api.Errno]int{}
	for range 6000 {
		l := adjustedAt(someAmount(r), r.Int63n(edge)-edge/2)
		if r.Intn(2) == 0 {
			l = adjustedAt(someAmount(r), edge-someAmount(r))
		}
		l.Rate = r.Int63n(unit+tenth) - tenth*r.Int63n(10)
		l.Due, l.Behind = someAmount(r)-someAmount(r), r.Intn(room+1)
		flows := someAmounts(r, 1+r.Intn(9))
		if r.Intn(20) == 0 {
			flows = []int64{r.Int63n(2)}
		}
		told[checkSlow(t, catchCall(), ask{loan: l, flows: flows})]++
	}
	if told[api.OK] < 1000 || told[api.ErrOver] < 500 || told[api.ErrArg] < 100 {
		t.Error("too few:", told)
	}
}
