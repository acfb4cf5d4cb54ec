package revise

import (
	"math/rand"
	"slices"
	"testing"

	"lombard/api"
	"lombard/loan"
)

// given is the document's loan: 1000 at 0.1, 1100 to come.
func given() loan.Loan {
	return loan.Loan{Id: 1, State: loan.Live, Outlay: 1000, Rate: tenth, Gross: 1000, Left: []int64{1100}}
}

// P13.1: by hand, the document's examples first.
func TestTestNamed(t *testing.T) {
	for _, x := range []struct {
		flows []int64
		worth int64
		other bool
	}{
		{[]int64{1210}, 1100, true},
		{[]int64{1110}, 1009, false},
		{[]int64{1100}, 1000, false},
		{[]int64{0, 1210}, 1000, false},
		{[]int64{0, 0, 1331}, 1000, false},
		{[]int64{1209}, 1099, false},
		{[]int64{1208, 0}, 1098, false},
		{[]int64{990}, 900, true},
		{[]int64{991}, 901, false},
		{[]int64{0}, 0, true},
		{[]int64{1}, 1, true},
		{[]int64{0, 0, 0}, 0, true},
		{[]int64{rich}, 9090909090909, true},
	} {
		check(t, testCall(), ask{loan: given(), flows: x.flows}, answer{worth: x.worth, other: x.other})
	}
}

// P13.1: flows are worth what they are at the loan's own Rate, whatever else it has.
func TestTestRate(t *testing.T) {
	for _, x := range []struct{ r, worth int64 }{
		{0, 1331}, {tenth, 1100}, {2 * tenth, 924}, {-tenth, 1643}, {api.MaxRate, 11}, {api.MinRate, 13310000}, {1, 1331},
	} {
		l := carrying(900, x.r)
		check(t, testCall(), ask{loan: l, flows: []int64{0, 1331}}, answer{worth: x.worth, other: x.worth != 924})
	}
}

// P13.1: apart by just a tenth of Gross, by one less and by one more, above and below.
func TestTestTenth(t *testing.T) {
	for _, x := range []struct{ gross, tenth int64 }{
		{1, 1}, {2, 1}, {9, 1}, {10, 1}, {11, 2}, {19, 2}, {20, 2}, {21, 3}, {999, 100}, {1000, 100}, {1001, 101}, {1009, 101}, {1010, 101}, {1011, 102}, {123456789, 12345679}, {rich, rich / 10}, {edge, 112589990684263},
	} {
		for _, by := range []int64{x.tenth - 1, x.tenth, x.tenth + 1} {
			for _, worth := range []int64{x.gross + by, x.gross - by} {
				if worth < 0 {
					continue
				}
				check(t, testCall(), ask{loan: carrying(x.gross, 0), flows: summing(worth)}, answer{worth: worth, other: by >= x.tenth})
			}
		}
	}
}

// P13.1: a tenth of a Gross of 0 is 0: whatever is worth anything is another loan, and so is what is worth nothing, for they are apart by that.
func TestTestNothingCarried(t *testing.T) {
	for _, l := range []loan.Loan{over(loan.Live), carrying(0, tenth)} {
		for _, x := range []struct{ flow, worth int64 }{{0, 0}, {1, 1}, {2, 2}, {11, 10}, {1100, 1000}} {
			check(t, testCall(), ask{loan: l, flows: []int64{x.flow}}, answer{worth: x.worth, other: true})
		}
	}
}

// P13.1: a worth so great that ten times what is between goes round is told, and is another loan: among them such that come round to less than Gross, or below 0.
func TestTestFar(t *testing.T) {
	for _, x := range []struct {
		gross, worth int64
		flows        []int64
	}{
		{38, 1844674407370955200, []int64{52, 95, 1844674407370}}, // ten times what is between is 2^64 and 4
		{19, 922337203685477600, []int64{76, 47, 922337203685}},   // 2^63 and 2
		{edge, 1844674407370955200, []int64{52, 95, 1844674407370}},
		{0, 4611686018427387900, []int64{79, 38, 4611686018427}},
		{1, 4611686018427387900, []int64{79, 38, 4611686018427}},
		{edge, 4611686018427387900, []int64{79, 38, 4611686018427}},
	} {
		check(t, testCall(), ask{loan: carrying(x.gross, api.MinRate), flows: x.flows}, answer{worth: x.worth, other: true})
	}
}

// doubling is flows of which one comes at the end of the 20th period, and one at the end of the first: at a rate of -0.5 what comes in so many periods is doubled as often.
func doubling(first, last int64) []int64 {
	flows := make([]int64, 20)
	flows[0], flows[19] = first, last
	return flows
}

// P13.1: layer 9's error: a worth at its bound, and beyond it.
func TestTestOver(t *testing.T) {
	l := carrying(900, -unit/2)
	check(t, testCall(), ask{loan: l, flows: doubling(0, 1<<42)}, answer{worth: 1 << 62, other: true})
	checkRefused(t, testCall(), ask{loan: l, flows: doubling(1, 1<<42)}, api.ErrOver)
	checkRefused(t, testCall(), ask{loan: l, flows: doubling(rich, rich)}, api.ErrOver)
	l.Rate = api.MinRate
	for _, flows := range [][]int64{{80, 38, 4611686018427}, {0, 0, rich}, slices.Repeat([]int64{rich}, room), slices.Repeat([]int64{1}, room), append(make([]int64, room-1), 1)} {
		checkRefused(t, testCall(), ask{loan: l, flows: flows}, api.ErrOver)
		checkRefused(t, catchCall(), ask{loan: l, flows: flows}, api.ErrOver)
	}
	check(t, testCall(), ask{loan: l, flows: make([]int64, room)}, answer{worth: 0, other: true})
}

// P13.1: as many flows as there may be, of nothing, of little and of all that may be.
func TestTestLongest(t *testing.T) {
	for _, x := range []struct{ flow, r, worth int64 }{
		{0, tenth, 0}, {1, 0, 600}, {rich, 0, 600 * rich}, {100, tenth, 995}, {100, api.MaxRate, 10}, // a long way back what is rounded keeps 995 from rising to 1000
	} {
		flows := slices.Repeat([]int64{x.flow}, room)
		check(t, testCall(), ask{loan: carrying(900, x.r), flows: flows}, answer{worth: x.worth, other: x.worth != 900})
	}
}

// P13.1, P1: any loans that are right, and any flows, against the chapter's own words; many that are about a tenth apart.
func TestTestAny(t *testing.T) {
	r := rand.New(rand.NewSource(1))
	others := map[bool]int{}
	for range 6000 {
		l := carrying(someAmount(r), r.Int63n(unit)-unit/10)
		flows := someAmounts(r, 1+r.Intn(5))
		if r.Intn(2) == 0 {
			worth, _ := slowWorth(flows, l.Rate)
			l = carrying(worth*(85+r.Int63n(30))/100, l.Rate)
		}
		a := ask{loan: l, flows: flows}
		if checkSlow(t, testCall(), a) == api.OK {
			others[slowTest(a).other]++
		}
	}
	if others[true] < 1000 || others[false] < 1000 {
		t.Error("too few:", others)
	}
}
