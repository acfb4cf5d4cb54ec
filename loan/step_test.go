package loan

import (
	"math/rand"
	"slices"
	"testing"

	"lombard/api"
)

func stepCall() call { return calls()[0] }
func payCall() call  { return calls()[1] }

// after is what a step may change of a loan, as it is then.
type after struct {
	state, behind         int
	gross, due, inc, recv int64
	left                  []int64
}

// changed is a loan with what a step changes of it put in.
func changed(l Loan, x after) Loan {
	l.State, l.Behind, l.Gross, l.Due, l.Income, l.Received, l.Left = x.state, x.behind, x.gross, x.due, x.inc, x.recv, x.left
	return l
}

// P12.2: the document's example: New, and steps to the end.
func TestExample(t *testing.T) {
	l, e := New(1, 1000, []int64{500, 605})
	if e != api.OK {
		t.Fatal(e)
	}
	half := Loan{Id: 1, State: Live, Outlay: 1000, Rate: l.Rate, Gross: 567, Income: 67, Received: 500, Left: []int64{605}}
	checkDone(t, stepCall(), l, 500, half, Move{Interest: 67, Paid: 500})
	end := Loan{Id: 1, State: Paid, Outlay: 1000, Rate: l.Rate, Income: 105, Received: 1105}
	checkDone(t, stepCall(), half, 605, end, Move{Interest: 38, Paid: 605})
	for _, c := range calls() {
		checkRefused(t, c, end, 1, api.ErrState)
	}
}

// P12.2: with several Left, by hand: the first of them goes, Due is greater by it and less by what is paid, and Behind counts while something is Due.
func TestStepSeveral(t *testing.T) {
	for _, x := range []struct {
		due, paid int64
		behind    int
		want      after
	}{
		{0, 100, 0, after{Live, 0, 890, 0, 340, 400, []int64{200, 300}}},
		{0, 99, 0, after{Live, 1, 891, 1, 340, 399, []int64{200, 300}}},
		{0, 101, 0, after{Live, 0, 889, -1, 340, 401, []int64{200, 300}}},
		{0, 0, 0, after{Live, 1, 990, 100, 340, 300, []int64{200, 300}}},
		{0, 0, 5, after{Live, 6, 990, 100, 340, 300, []int64{200, 300}}},
		{30, 130, 5, after{Live, 0, 860, 0, 340, 430, []int64{200, 300}}},
		{30, 129, 5, after{Live, 6, 861, 1, 340, 429, []int64{200, 300}}},
		{30, 131, 5, after{Live, 0, 859, -1, 340, 431, []int64{200, 300}}},
		{-40, 60, 0, after{Live, 0, 930, 0, 340, 360, []int64{200, 300}}},
		{-40, 59, 0, after{Live, 1, 931, 1, 340, 359, []int64{200, 300}}},
		{-40, 0, 0, after{Live, 1, 990, 60, 340, 300, []int64{200, 300}}},
		{-100, 0, 3, after{Live, 0, 990, 0, 340, 300, []int64{200, 300}}},
		{-200, 0, 3, after{Live, 0, 990, -100, 340, 300, []int64{200, 300}}},
		{-200, 50, 3, after{Live, 0, 940, -150, 340, 350, []int64{200, 300}}},
	} {
		l := halfway()
		l.Due, l.Behind = x.due, x.behind
		checkDone(t, stepCall(), l, x.paid, changed(l, x.want), Move{Interest: 90, Paid: x.paid})
	}
}

// P12.2: with one Left, by hand: with a Due of 0 or less behind it the loan is paid off, by an interest that leaves nothing; with a Due above 0 it stays Live, and the interest is the rate's.
func TestStepLast(t *testing.T) {
	for _, x := range []struct {
		due, last, paid int64
		interest        int64
		want            after
	}{
		{0, 100, 100, -800, after{Paid, 0, 0, 0, -550, 400, nil}},
		{0, 990, 990, 90, after{Paid, 0, 0, 0, 340, 1290, nil}},
		{0, 990, 991, 91, after{Paid, 0, 0, 0, 341, 1291, nil}},
		{0, 990, 5000, 4100, after{Paid, 0, 0, 0, 4350, 5300, nil}},
		{0, 990, 989, 90, after{Live, 3, 1, 1, 340, 1289, nil}},
		{30, 990, 1020, 120, after{Paid, 0, 0, 0, 370, 1320, nil}},
		{-30, 990, 960, 60, after{Paid, 0, 0, 0, 310, 1260, nil}},
		{-30, 990, 961, 61, after{Paid, 0, 0, 0, 311, 1261, nil}},
		{-30, 990, 959, 90, after{Live, 3, 31, 1, 340, 1259, nil}},
		{-990, 990, 0, -900, after{Paid, 0, 0, 0, -650, 300, nil}},
		{-991, 990, 0, -900, after{Paid, 0, 0, 0, -650, 300, nil}},
		{0, 0, 0, -900, after{Paid, 0, 0, 0, -650, 300, nil}},
		{1, 0, 0, 90, after{Live, 3, 990, 1, 340, 300, nil}},
		{0, 990, 0, 90, after{Live, 3, 990, 990, 340, 300, nil}},
	} {
		l := halfway()
		l.Due, l.Left = x.due, []int64{x.last}
		checkDone(t, stepCall(), l, x.paid, changed(l, x.want), Move{Interest: x.interest, Paid: x.paid})
	}
}

// P12.2: with nothing Left, nil or empty, it is ErrState, whatever is Due and paid; but a wrong amount is ErrArg.
func TestStepNothingLeft(t *testing.T) {
	for _, left := range [][]int64{nil, {}, make([]int64, 0, 5), []int64{1, 2}[:0]} {
		for _, due := range []int64{-edge, -1, 0, 1, edge} {
			for _, gross := range []int64{0, 1, 900, edge} {
				l := with(halfway(), func(l *Loan) { l.Left, l.Due, l.Gross = left, due, gross })
				for _, paid := range []int64{0, 1, 5000, rich} {
					checkRefused(t, stepCall(), l, paid, api.ErrState)
				}
				checkRefused(t, stepCall(), l, -1, api.ErrArg)
				checkRefused(t, stepCall(), l, rich+1, api.ErrArg)
			}
		}
	}
}

// P12.2: Behind is MaxPeriods at most, and 0 as soon as nothing is Due.
func TestStepBehind(t *testing.T) {
	for _, x := range []struct{ was, more int }{{0, 1}, {1, 2}, {room - 2, room - 1}, {room - 1, room}, {room, room}} {
		l := halfway()
		l.Behind = x.was
		checkDone(t, stepCall(), l, 129, changed(l, after{Live, x.more, 861, 1, 340, 429, []int64{200, 300}}), Move{Interest: 90, Paid: 129})
		checkDone(t, stepCall(), l, 130, changed(l, after{Live, 0, 860, 0, 340, 430, []int64{200, 300}}), Move{Interest: 90, Paid: 130})
		l.Left = []int64{100}
		checkDone(t, stepCall(), l, 130, changed(l, after{Paid, 0, 0, 0, -520, 430, nil}), Move{Interest: -770, Paid: 130})
	}
}

// P12.2: a Gross of just 0, and one below: ErrArg. It isn't paid off by that, so long as something is Left, or Due.
func TestStepToNothing(t *testing.T) {
	l := halfway()
	checkDone(t, stepCall(), l, 989, changed(l, after{Live, 0, 1, -859, 340, 1289, []int64{200, 300}}), Move{Interest: 90, Paid: 989})
	checkDone(t, stepCall(), l, 990, changed(l, after{Live, 0, 0, -860, 340, 1290, []int64{200, 300}}), Move{Interest: 90, Paid: 990})
	checkRefused(t, stepCall(), l, 991, api.ErrArg)
	checkRefused(t, stepCall(), l, rich, api.ErrArg)
	l.Left = []int64{2000}
	checkDone(t, stepCall(), l, 990, changed(l, after{Live, 3, 0, 1040, 340, 1290, nil}), Move{Interest: 90, Paid: 990})
	checkRefused(t, stepCall(), l, 991, api.ErrArg)
	checkRefused(t, stepCall(), l, 2029, api.ErrArg)
	checkDone(t, stepCall(), l, 2030, changed(l, after{Paid, 0, 0, 0, 1380, 2330, nil}), Move{Interest: 1130, Paid: 2030})
	nothing := with(halfway(), func(l *Loan) { l.Gross = 0 })
	checkDone(t, stepCall(), nothing, 0, changed(nothing, after{Live, 3, 0, 130, 250, 300, []int64{200, 300}}), Move{})
	checkRefused(t, stepCall(), nothing, 1, api.ErrArg)
}

// P12.2: the interest is layer 3's: to the nearer one, to the even one of two, below 0 at a rate below 0.
func TestStepInterest(t *testing.T) {
	for _, x := range []struct{ gross, r, interest int64 }{
		{900, 0, 0},
		{900, tenth, 90},
		{904, tenth, 90},
		{905, tenth, 90},
		{906, tenth, 91},
		{915, tenth, 92},
		{900, -tenth, -90},
		{905, -tenth, -90},
		{915, -tenth, -92},
		{900, api.MinRate, -891},
		{900, api.MaxRate, 9000},
		{0, api.MaxRate, 0},
		{1, api.MinRate, -1},
		{1, unit / 2, 0},
		{3, unit / 2, 2},
		{rich, unit, rich},
		{edge, -1, -1126},
	} {
		l := with(halfway(), func(l *Loan) { l.Gross, l.Rate = x.gross, x.r })
		next, m, e := Step(l, 0)
		if e != api.OK || m != (Move{Interest: x.interest}) || next.Gross != x.gross+x.interest || next.Income != 250+x.interest {
			t.Errorf("%d at %d: %+v, %+v, %d; want %d", x.gross, x.r, next, m, e, x.interest)
		}
		checkSlow(t, stepCall(), l, 0)
	}
}

// P12.2 ErrOver: each sum at its bound, and one beyond.
func TestStepOver(t *testing.T) {
	checkBounds(t, stepCall(), []bound{
		{"Received", with(halfway(), func(l *Loan) { l.Received = edge - 50 }), 50, nil, 1},
		{"Received at the end", with(halfway(), func(l *Loan) { l.Received, l.Left = edge-200, []int64{100} }), 200, nil, 1},
		{"Due", with(halfway(), func(l *Loan) { l.Due = edge - 50 }), 50, func(l *Loan) { l.Due++ }, 0},
		{"Due by less", with(halfway(), func(l *Loan) { l.Due = edge - 50 }), 50, nil, -1},
		{"Due below", with(halfway(), func(l *Loan) { l.Due = 50 - edge }), 150, func(l *Loan) { l.Due-- }, 0},
		{"Due below by more", with(halfway(), func(l *Loan) { l.Due = -edge }), 100, nil, 1},
		{"Due at the end", with(halfway(), func(l *Loan) { l.Due, l.Left = edge-50, []int64{100} }), 50, nil, -1},
		{"Income", with(halfway(), func(l *Loan) { l.Income = edge - 90 }), 50, func(l *Loan) { l.Income++; l.Adjusted-- }, 0},
		{"Income below", with(halfway(), func(l *Loan) { l.Gross, l.Rate, l.Income = 100, -tenth, 10-edge }), 50, func(l *Loan) { l.Income--; l.Adjusted++ }, 0},
		{"Income at the end", with(halfway(), func(l *Loan) { l.Income, l.Left = edge-50, []int64{100} }), 950, nil, 1},
		{"Income below at the end", with(halfway(), func(l *Loan) { l.Due, l.Gross, l.Income, l.Left = -100, 600, 600-edge, []int64{100} }), 0, func(l *Loan) { l.Gross++; l.Adjusted++ }, 0},
		{"Gross", with(halfway(), func(l *Loan) { l.Gross, l.Rate = edge/2, unit }), 0, func(l *Loan) { l.Gross++; l.Adjusted++ }, 0},
		{"Gross less what is paid", with(halfway(), func(l *Loan) { l.Gross, l.Rate = edge-900, 1 }), 226, nil, -1},
		{"Gross of the greatest", with(halfway(), func(l *Loan) { l.Gross, l.Rate = edge, 0 }), 0, func(l *Loan) { l.Rate = 1 }, 0},
	})
}

// P12.2: what is Due is 0 once the loan is paid off, so what came too far ahead isn't too great there.
func TestStepDueAtTheEnd(t *testing.T) {
	l := halfway()
	l.Due, l.Left = -edge, []int64{0}
	checkDone(t, stepCall(), l, rich, changed(l, after{Paid, 0, 0, 0, rich - 650, rich + 300, nil}), Move{Interest: rich - 900, Paid: rich})
	l.Left = []int64{0, 0}
	checkRefused(t, stepCall(), l, 1, api.ErrOver)
}

// P12.2 ErrOver: an interest that is too great, by far.
func TestStepInterestTooGreat(t *testing.T) {
	for _, gross := range []int64{edge / 2, edge - 1, edge} {
		for _, r := range []int64{2 * unit, api.MaxRate - 1, api.MaxRate} {
			l := with(halfway(), func(l *Loan) { l.Gross, l.Rate = gross, r })
			for _, paid := range []int64{0, 1, rich} {
				checkRefused(t, stepCall(), l, paid, api.ErrOver)
			}
			l.Left = []int64{100} // what pays it off doesn't ask the rate
			checkDone(t, stepCall(), l, 130, changed(l, after{Paid, 0, 0, 0, 250 + 130 - gross, 430, nil}), Move{Interest: 130 - gross, Paid: 130})
		}
	}
}

// P12.2, P12.3: where Gross were below 0, and something too great, it is ErrArg, which the chapter names first.
func TestArgAheadOfOver(t *testing.T) {
	l := with(halfway(), func(l *Loan) { l.Received, l.Rate = edge, 0 })
	for _, c := range calls()[:2] {
		checkRefused(t, c, l, 1, api.ErrOver)
		checkRefused(t, c, l, 900, api.ErrOver)
		checkRefused(t, c, l, 901, api.ErrArg)
		checkRefused(t, c, l, rich, api.ErrArg)
	}
	deep := halfway()
	deep.Due = -edge
	checkRefused(t, payCall(), deep, 900, api.ErrOver)
	checkRefused(t, payCall(), deep, 901, api.ErrArg)
}

// P12.3: with something Left, by hand: Due, Gross are less, Received is greater, there is no interest, and Behind is 0 only if nothing is Due.
func TestPaySome(t *testing.T) {
	for _, x := range []struct {
		due, paid int64
		behind    int
		want      after
	}{
		{30, 0, 2, after{Live, 2, 900, 30, 250, 300, []int64{100, 200, 300}}},
		{30, 1, 2, after{Live, 2, 899, 29, 250, 301, []int64{100, 200, 300}}},
		{30, 29, 2, after{Live, 2, 871, 1, 250, 329, []int64{100, 200, 300}}},
		{30, 30, 2, after{Live, 0, 870, 0, 250, 330, []int64{100, 200, 300}}},
		{30, 31, 2, after{Live, 0, 869, -1, 250, 331, []int64{100, 200, 300}}},
		{0, 0, 2, after{Live, 0, 900, 0, 250, 300, []int64{100, 200, 300}}},
		{0, 5, 0, after{Live, 0, 895, -5, 250, 305, []int64{100, 200, 300}}},
		{-7, 0, 2, after{Live, 0, 900, -7, 250, 300, []int64{100, 200, 300}}},
		{-7, 5, 0, after{Live, 0, 895, -12, 250, 305, []int64{100, 200, 300}}},
		{2000, 5, room, after{Live, room, 895, 1995, 250, 305, []int64{100, 200, 300}}},
		{2000, 5, 0, after{Live, 0, 895, 1995, 250, 305, []int64{100, 200, 300}}},
		{2000, 899, 4, after{Live, 4, 1, 1101, 250, 1199, []int64{100, 200, 300}}},
		{2000, 900, 4, after{Live, 4, 0, 1100, 250, 1200, []int64{100, 200, 300}}},
		{900, 900, 4, after{Live, 0, 0, 0, 250, 1200, []int64{100, 200, 300}}},
		{0, 900, 4, after{Live, 0, 0, -900, 250, 1200, []int64{100, 200, 300}}},
	} {
		l := halfway()
		l.Due, l.Behind = x.due, x.behind
		checkDone(t, payCall(), l, x.paid, changed(l, x.want), Move{Paid: x.paid})
		checkRefused(t, payCall(), l, 901, api.ErrArg)
		checkRefused(t, payCall(), l, 5000, api.ErrArg)
		checkRefused(t, payCall(), l, rich, api.ErrArg)
	}
}

// P12.3: with one Left, though it be of nothing, it isn't paid off.
func TestPayOneLeft(t *testing.T) {
	for _, left := range []int64{0, 1, rich} {
		l := halfway()
		l.Left = []int64{left}
		checkDone(t, payCall(), l, 30, changed(l, after{Live, 0, 870, 0, 250, 330, []int64{left}}), Move{Paid: 30})
		checkDone(t, payCall(), l, 900, changed(l, after{Live, 0, 0, -870, 250, 1200, []int64{left}}), Move{Paid: 900})
		checkRefused(t, payCall(), l, 901, api.ErrArg)
	}
}

// P12.3: with nothing Left, by hand: with a Due of 0 or less then it is paid off, whatever Gross is; with a Due above 0 there is no interest, and it stays Live.
func TestPayNothingLeft(t *testing.T) {
	for _, x := range []struct {
		due, paid int64
		interest  int64
		want      after
	}{
		{900, 900, 0, after{Paid, 0, 0, 0, 250, 1200, nil}},
		{900, 899, 0, after{Live, 2, 1, 1, 250, 1199, nil}},
		{900, 901, 1, after{Paid, 0, 0, 0, 251, 1201, nil}},
		{900, 5000, 4100, after{Paid, 0, 0, 0, 4350, 5300, nil}},
		{900, 0, 0, after{Live, 2, 900, 900, 250, 300, nil}},
		{910, 910, 10, after{Paid, 0, 0, 0, 260, 1210, nil}},
		{890, 890, -10, after{Paid, 0, 0, 0, 240, 1190, nil}},
		{30, 30, -870, after{Paid, 0, 0, 0, -620, 330, nil}},
		{1, 0, 0, after{Live, 2, 900, 1, 250, 300, nil}},
		{0, 0, -900, after{Paid, 0, 0, 0, -650, 300, nil}},
		{-1, 0, -900, after{Paid, 0, 0, 0, -650, 300, nil}},
		{-1, 7, -893, after{Paid, 0, 0, 0, -643, 307, nil}},
		{2000, 900, 0, after{Live, 2, 0, 1100, 250, 1200, nil}},
		{2000, 2000, 1100, after{Paid, 0, 0, 0, 1350, 2300, nil}},
	} {
		for _, left := range [][]int64{nil, {}, []int64{1, 2}[:0]} {
			l := halfway()
			l.Due, l.Left = x.due, left
			checkDone(t, payCall(), l, x.paid, changed(l, x.want), Move{Interest: x.interest, Paid: x.paid})
		}
	}
	l := halfway()
	l.Due, l.Left = 2000, nil
	for _, paid := range []int64{901, 1500, 1999} {
		checkRefused(t, payCall(), l, paid, api.ErrArg)
	}
}

// P12.3 ErrOver: each sum at its bound, and one beyond.
func TestPayOver(t *testing.T) {
	none := func(l *Loan) { l.Left = nil }
	checkBounds(t, payCall(), []bound{
		{"Received", with(halfway(), func(l *Loan) { l.Received = edge - 50 }), 50, nil, 1},
		{"Received at the end", with(halfway(), func(l *Loan) { l.Received = edge - 50; none(l) }), 50, nil, 1},
		{"Due below", with(halfway(), func(l *Loan) { l.Due = 50 - edge }), 50, nil, 1},
		{"Income at the end", with(halfway(), func(l *Loan) { l.Income = edge - 50; none(l) }), 950, nil, 1},
		{"Income below at the end", with(halfway(), func(l *Loan) { l.Due, l.Income, l.Gross = 0, 100-edge, 150; none(l) }), 50, nil, -1},
	})
	deep := halfway()
	deep.Due, deep.Left = -edge, nil
	checkDone(t, payCall(), deep, 50, changed(deep, after{Paid, 0, 0, 0, -600, 350, nil}), Move{Interest: -850, Paid: 50})
	high := halfway()
	high.Due = edge
	checkDone(t, payCall(), high, 0, high, Move{})
}

// P12.2, P12.3: amounts at their bounds and beyond; what is refused for Gross alone isn't, once Gross is great enough.
func TestPaidAmounts(t *testing.T) {
	great := with(halfway(), func(l *Loan) { l.Gross, l.Rate = edge-1, 0 })
	for _, c := range calls()[:2] {
		for _, paid := range []int64{0, 1, 2, rich - 1, rich} {
			next, m, e := c.of(great, paid)
			if e != api.OK || m != (Move{Paid: paid}) || next.Gross != edge-1-paid || next.Received != 300+paid {
				t.Errorf("%s of %d: %+v, %+v, %d", c.name, paid, next, m, e)
			}
			checkSlow(t, c, great, paid)
		}
		for _, paid := range wrongFlows() {
			checkRefused(t, c, great, paid, api.ErrArg)
			checkRefused(t, c, halfway(), paid, api.ErrArg)
		}
	}
}

// P12.2 to P12.4: loans of any kind that are right, at the edges often, against the chapter's own words.
func TestSlow(t *testing.T) {
	r := rand.New(rand.NewSource(3))
	met := map[string]int{}
	names := map[api.Errno]string{api.OK: "OK", api.ErrArg: "ErrArg", api.ErrState: "ErrState", api.ErrOver: "ErrOver"}
	for range 60000 {
		l := someRight(r)
		for _, c := range calls() {
			e := checkSlow(t, c, l, someOf(r, l))
			met[c.name+" "+names[e]]++
		}
	}
	for _, c := range calls() {
		for _, name := range []string{"OK", "ErrArg", "ErrState", "ErrOver"} {
			if n := met[c.name+" "+name]; n < 50 {
				t.Errorf("%s: too few are %s: %d", c.name, name, n)
			}
		}
	}
}

// someOf is an amount that has to do with a loan, or any one.
func someOf(r *rand.Rand, l Loan) int64 {
	some := []int64{0, 1, rich, l.Gross, l.Due, edge - l.Received, edge - l.Written, edge - l.Recovered, edge + l.Due, someAmount(r), someNumber(r)}
	if len(l.Left) > 0 {
		some = append(some, l.Left[0], l.Due+l.Left[0])
	}
	return some[r.Intn(len(some))] + int64(r.Intn(3)-1)
}

// someRight is a loan that is right: its sums lie at their bounds often.
func someRight(r *rand.Rand) Loan {
	near := func(ends ...int64) int64 {
		n := ends[r.Intn(len(ends))]
		if r.Intn(2) == 0 {
			return someAmount(r)
		}
		return n + int64(r.Intn(5)-2)
	}
	for {
		l := Loan{Id: r.Intn(ids), State: Live, Behind: []int{0, 1, room - 1, room}[r.Intn(4)], Outlay: 1 + someAmount(r)}
		l.Rate = []int64{0, tenth, -tenth, unit, api.MinRate, api.MaxRate, r.Int63n(unit)}[r.Intn(7)]
		l.Gross, l.Due, l.Income = near(0, rich, edge), near(-edge, 0, edge), near(-edge, 0, edge)
		l.Received, l.Written, l.Recovered = near(0, edge), near(0, edge), near(0, edge)
		l.Left = someAmounts(r, r.Intn(4))
		if r.Intn(4) == 0 {
			l.State, l.Gross, l.Due, l.Left = Paid+r.Intn(3), 0, 0, nil
		}
		if l = fitted(l); slowRight(l) {
			return l
		}
	}
}

// P1: any loans and amounts at all, against the chapter's own words.
func TestAny(t *testing.T) {
	r := rand.New(rand.NewSource(4))
	for range 30000 {
		l := someLoan(r, someNumber)
		if r.Intn(2) == 0 {
			l = fitted(l)
		}
		for _, c := range calls() {
			checkSlow(t, c, l, someNumber(r))
			checkSlow(t, c, l, 1)
		}
	}
}

// P1: the least and the greatest number in each part of a loan, and as an amount: ErrArg, in each State.
func TestFar(t *testing.T) {
	for _, state := range []int{Live, Paid, Off, Gone, 0, 5} {
		for _, p := range parts() {
			for _, n := range append(farNumbers(), p.low-1, p.high+1) {
				l := halfway()
				l.State = state
				p.put(&l, n)
				for _, c := range calls() {
					for _, amount := range []int64{0, 1, rich, -1, rich + 1, least, most} {
						checkRefused(t, c, l, amount, api.ErrArg)
					}
				}
			}
		}
	}
}

// Which error is answered: of a loan that isn't right, or a wrong amount, ErrArg, in each State; of a State that isn't asked ErrState, ahead of all that the step itself would be refused for.
func TestErrorsInOrder(t *testing.T) {
	for _, c := range calls() {
		for _, state := range []int{Live, Paid, Off, Gone} {
			l := over(state)
			wrong := l
			wrong.Outlay++
			for _, amount := range []int64{1, rich} {
				checkRefused(t, c, wrong, amount, api.ErrArg)
				if state != c.state {
					checkRefused(t, c, l, amount, api.ErrState)
					checkRefused(t, c, with(l, func(l *Loan) { l.Received, l.Written, l.Recovered, l.Income = edge, edge, edge, edge }), amount, api.ErrState)
				}
			}
			for _, amount := range append(wrongFlows(), c.from-1) {
				checkRefused(t, c, wrong, amount, api.ErrArg)
				checkRefused(t, c, l, amount, api.ErrArg)
			}
		}
	}
	for _, c := range calls() {
		checkRefused(t, c, Loan{}, 1, api.ErrArg)
		long := halfway()
		long.Left = slices.Repeat([]int64{1}, room+1)
		checkRefused(t, c, long, 1, api.ErrArg)
	}
}
