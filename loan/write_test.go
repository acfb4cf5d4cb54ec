package loan

import (
	"slices"
	"testing"

	"lombard/api"
)

func writeCall() call   { return calls()[2] }
func recoverCall() call { return calls()[3] }

// P12.4 Write: by hand: Gross is less by it, Written greater, and all else as it was; all of Gross writes the loan off.
func TestWriteNamed(t *testing.T) {
	for _, due := range []int64{-40, 0, 30} {
		for _, left := range [][]int64{nil, {100}, {100, 200, 300}, slices.Repeat([]int64{5}, room)} {
			l := halfway()
			l.Due, l.Left = due, left
			for _, amount := range []int64{1, 2, 450, 898, 899} {
				want := l
				want.Gross, want.Written = 900-amount, 30+amount
				checkDone(t, writeCall(), l, amount, want, Move{Written: amount})
			}
			off := Loan{Id: 7, State: Off, Outlay: 1000, Rate: tenth, Income: 250, Received: 300, Adjusted: -20, Written: 930, Recovered: 40}
			checkDone(t, writeCall(), l, 900, off, Move{Written: 900})
			for _, amount := range []int64{901, 902, rich} {
				checkRefused(t, writeCall(), l, amount, api.ErrArg)
			}
		}
	}
}

// P12.4 Write: of a loan that carries nothing nothing can be written off, though it is Live.
func TestWriteOfNothing(t *testing.T) {
	l := with(halfway(), func(l *Loan) { l.Gross = 0 })
	for _, amount := range []int64{0, 1, 2, rich} {
		checkRefused(t, writeCall(), l, amount, api.ErrArg)
	}
	one := with(halfway(), func(l *Loan) { l.Gross = 1 })
	checkRefused(t, writeCall(), one, 2, api.ErrArg)
	if off, _, e := Write(one, 1); e != api.OK || off.State != Off || off.Gross != 0 {
		t.Error(off, e)
	}
}

// P12.4: amounts at their bounds and beyond: from 1 on.
func TestWrittenAmounts(t *testing.T) {
	great := with(halfway(), func(l *Loan) { l.Gross = edge })
	off := over(Off)
	for _, amount := range []int64{1, 2, rich - 1, rich} {
		want := great
		want.Gross, want.Written = edge-amount, 30+amount
		checkDone(t, writeCall(), great, amount, want, Move{Written: amount})
		came := off
		came.Recovered = 40 + amount
		checkDone(t, recoverCall(), off, amount, came, Move{Recovered: amount})
	}
	for _, amount := range append(wrongFlows(), 0) {
		checkRefused(t, writeCall(), great, amount, api.ErrArg)
		checkRefused(t, writeCall(), halfway(), amount, api.ErrArg)
		checkRefused(t, recoverCall(), off, amount, api.ErrArg)
	}
}

// P12.4 ErrOver: Written and Recovered at their bounds, and one beyond.
func TestWriteOver(t *testing.T) {
	checkBounds(t, writeCall(), []bound{
		{"Written", with(halfway(), func(l *Loan) { l.Written = edge - 50 }), 50, nil, 1},
		{"Written by one", with(halfway(), func(l *Loan) { l.Written = edge - 1 }), 1, func(l *Loan) { l.Written++; l.Adjusted++ }, 0},
		{"Written off", with(halfway(), func(l *Loan) { l.Written = edge - 900 }), 900, func(l *Loan) { l.Gross++; l.Adjusted++ }, 1},
	})
	checkBounds(t, recoverCall(), []bound{
		{"Recovered", with(over(Off), func(l *Loan) { l.Recovered = edge - 50 }), 50, nil, 1},
		{"Recovered by one", with(over(Off), func(l *Loan) { l.Recovered = edge - 1 }), 1, func(l *Loan) { l.Recovered++ }, 0},
	})
}

// P12.4 Write: more than Gross is ErrArg, though Written would be too great then, too.
func TestWriteArgAheadOfOver(t *testing.T) {
	l := with(halfway(), func(l *Loan) { l.Written = edge })
	checkRefused(t, writeCall(), l, 900, api.ErrOver)
	checkRefused(t, writeCall(), l, 901, api.ErrArg)
}

// P12.4: each State, of Write Live, of Recover Off; all else is ErrState.
func TestWriteStates(t *testing.T) {
	for _, state := range []int{Live, Paid, Off, Gone} {
		l := over(state)
		if state != Live {
			checkRefused(t, writeCall(), l, 1, api.ErrState)
		}
		if state != Off {
			checkRefused(t, recoverCall(), l, 1, api.ErrState)
		}
	}
	checkRefused(t, recoverCall(), halfway(), 1, api.ErrState)
}

// P12.4 Recover: once and again, and nothing else is another one; what it is Behind stays.
func TestRecoverAgain(t *testing.T) {
	l := over(Off)
	l.Behind, l.Left = 5, []int64{1, 2}[:0]
	sum := l.Recovered
	for _, amount := range []int64{1, 7, rich, 1} {
		want := l
		want.Recovered = sum + amount
		checkDone(t, recoverCall(), l, amount, want, Move{Recovered: amount})
		sum += amount
		l = want
	}
}
