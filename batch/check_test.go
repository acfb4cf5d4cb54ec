package batch

import (
	"slices"
	"testing"

	"lombard/api"
	"lombard/chart"
)

// P18.1: each Seq with each Event, that may be and that may not, without lines and with them.
func TestNumbers(t *testing.T) {
	for _, l := range [][]chart.Line{nil, {}, lines(2, 300, 1, -300), pairs(room, great)} {
		for _, seq := range mayNumbers() {
			for _, event := range mayNumbers() {
				checkPut(t, Batch{seq, event, l}, api.OK)
			}
			for _, wrong := range wrongNumbers() {
				checkPut(t, Batch{seq, wrong, l}, api.ErrArg)
				checkPut(t, Batch{wrong, seq, l}, api.ErrArg)
			}
		}
		for _, seq := range wrongNumbers() {
			for _, event := range wrongNumbers() {
				checkPut(t, Batch{seq, event, l}, api.ErrArg)
			}
		}
	}
}

// P18.1: how many lines there may be: none, nil or empty; not one alone, which can't be 0; up to 64.
func TestHowMany(t *testing.T) {
	for _, l := range [][]chart.Line{nil, {}, pairs(room, 5)[:0]} {
		checkPut(t, Batch{1, 2, l}, api.OK)
	}
	for account := chart.Cash; account <= chart.Recovered; account++ {
		for _, n := range amounts() {
			checkPut(t, Batch{1, 2, []chart.Line{{Account: account, Amount: n}}}, api.ErrArg)
		}
	}
	for n := 2; n <= room; n++ {
		want := api.OK
		if n%2 == 1 {
			want = api.ErrArg
		}
		checkPut(t, Batch{1, 2, pairs(n, 5)}, want)
		checkPut(t, Batch{1, 2, pairs(n, great)}, want)
	}
	checkPut(t, Batch{1, 2, append(pairs(room-2, 4), lines(1, 5, 1, 1, 1, -6)[:2]...)}, api.ErrArg)
	checkPut(t, Batch{1, 2, append(pairs(room-4, 4), lines(1, 5, 1, 1, 1, -6)...)}, api.OK)
	for _, n := range []int{room + 1, room + 2, 255, 256, 257, 256 + 2, 1 << 16} {
		checkPut(t, Batch{1, 2, pairs(n, 5)}, api.ErrFull)
		checkPut(t, Batch{1, 2, make([]chart.Line, n)}, api.ErrFull)
	}
}

// P18.1: a wrong line at each place, as far as may be with others that set it off, and lines that aren't 0 all together.
func TestLines(t *testing.T) {
	for _, x := range wrongLines() {
		checkPut(t, Batch{1, 2, []chart.Line{x}}, api.ErrArg)
		back := chart.Line{Account: chart.Loans, Amount: -x.Amount}
		for at := range 4 {
			checkPut(t, Batch{1, 2, slices.Insert(append(pairs(2, 7), back), at, x)}, api.ErrArg)
		}
		for _, at := range []int{0, 1, room - 1} {
			l := pairs(room, 7)
			l[at] = x
			checkPut(t, Batch{1, 2, l}, api.ErrArg)
			l = pairs(room, 7)
			l[at].Account = x.Account
			checkPut(t, Batch{1, 2, l}, slowCheck(Batch{1, 2, l}))
		}
	}
	for at := range room {
		l := pairs(room, 1000)
		l[at].Amount++
		checkPut(t, Batch{1, 2, l}, api.ErrArg)
	}
	for _, n := range amounts() {
		checkPut(t, Batch{1, 2, lines(5, n, 6, -n)}, api.OK)
		checkPut(t, Batch{1, 2, lines(5, n, 6, n)}, api.ErrArg)
	}
}

// P18.1: several wrong at once: a wrong Seq or Event is told ahead of what is wrong with lines, that there are too many ahead of what is wrong with one.
func TestSeveralWrong(t *testing.T) {
	full := pairs(room+1, 5)
	for _, wrong := range wrongNumbers() {
		checkPut(t, Batch{wrong, 2, full}, api.ErrArg)
		checkPut(t, Batch{1, wrong, full}, api.ErrArg)
		checkPut(t, Batch{wrong, wrong, full}, api.ErrArg)
		checkPut(t, Batch{wrong, 2, full[:1]}, api.ErrArg)
	}
	checkPut(t, Batch{1, 2, full}, api.ErrFull)
	for _, x := range wrongLines() {
		for _, at := range []int{0, room / 2, room} {
			l := slices.Clone(full)
			l[at] = x
			checkPut(t, Batch{1, 2, l}, api.ErrFull)
			checkPut(t, Batch{-1, 2, l}, api.ErrArg)
			checkPut(t, Batch{1, highest + 1, l}, api.ErrArg)
		}
	}
}
