package chart

import (
	"math/rand"
	"slices"
	"testing"

	"lombard/api"
)

// P17.2: lines that may be, by hand: on several accounts, on one, in parts, of the bounds.
func TestMayBe(t *testing.T) {
	for _, l := range [][]Line{
		{{Loans, 100}, {Cash, -100}},
		{{Cash, -100}, {Loans, 100}},
		{{Cash, 1}, {Cash, -1}},
		{{Recovered, -1}, {Recovered, 1}},
		{{Cash, 500}, {Loans, -433}, {Income, -67}},
		{{Loans, great}, {Cash, -great}},
		{{Loans, great - 1}, {Cash, 1}, {Income, -great}},
		{{1, 1}, {2, 2}, {3, 3}, {4, 4}, {5, 5}, {6, 6}, {7, -21}},
		{{1, -great}, {2, -great}, {3, great}, {4, great}},
	} {
		checkLines(t, l, api.OK)
	}
	for _, n := range amounts() {
		if n != 0 {
			checkLines(t, []Line{{Effects, n}, {Impaired, -n}}, api.OK)
		}
	}
}

// P17.2: how many there may be: none may not, nil or empty; one can't be 0 all together; 64 may be, 65 may not.
func TestHowMany(t *testing.T) {
	checkLines(t, nil, api.ErrArg)
	checkLines(t, []Line{}, api.ErrArg)
	checkLines(t, pairs(room, 5)[:0], api.ErrArg)
	for account := Cash; account <= Recovered; account++ {
		for _, n := range amounts() {
			checkLines(t, on(account, n), api.ErrArg)
		}
	}
	for n := 2; n <= room; n += 2 {
		checkLines(t, pairs(n, 5), api.OK)
		checkLines(t, pairs(n, great), api.OK)
	}
	checkLines(t, append(pairs(room-3, 4), on(Cash, 1, -5)...), api.OK)
	for _, n := range []int{room + 1, room + 2, 2 * room, 1 << 16} {
		checkLines(t, pairs(n, 5), api.ErrFull)
		checkLines(t, make([]Line, n), api.ErrFull)
	}
}

// P17.2: lines that are 0 all together but for 1, and 64 of the greatest amounts.
func TestNotZero(t *testing.T) {
	for _, l := range [][]Line{
		{{Loans, 100}, {Cash, -99}},
		{{Loans, 100}, {Cash, -101}},
		{{Loans, great}, {Cash, -great + 1}},
		{{Loans, great - 1}, {Cash, -great}},
		{{Loans, 100}, {Cash, 100}},
		{{Loans, -100}, {Cash, -100}},
		{{1, 1}, {2, 2}, {3, 3}, {4, 4}, {5, 5}, {6, 6}, {7, -20}},
		{{1, 1}, {1, -1}, {2, 1}},
		slices.Repeat([]Line{{Loans, great}}, room),
		slices.Repeat([]Line{{Loans, -great}}, room),
		slices.Repeat([]Line{{Loans, great}}, 4), // 2^52: 0 in the lowest 32 bits
		slices.Repeat([]Line{{Loans, great / 2}}, room),
	} {
		checkLines(t, l, api.ErrArg)
	}
	for at := range room {
		for _, more := range []int64{1, -1} {
			l := pairs(room, 1000)
			l[at].Amount += more
			checkLines(t, l, api.ErrArg)
		}
	}
}

// wrongLines are wrong by their accounts, by their amounts, or by both.
func wrongLines() []Line {
	l := []Line{{Cash, 0}, {Recovered, 0}, {}}
	for _, n := range wrongNumbers() {
		l = append(l, Line{n, 1}, Line{n, -great}, Line{n, 0}, Line{n, most}, Line{n, least})
	}
	for _, n := range wrongAmounts() {
		l = append(l, Line{Cash, n}, Line{Recovered, n})
	}
	return l
}

// P17.2: a wrong line at each place of lines that are 0 all together, as far as they can be: with its negative beside it, of a wrong line or of one that may be.
func TestWrongLine(t *testing.T) {
	for _, x := range wrongLines() {
		checkLines(t, []Line{x}, api.ErrArg)
		checkLines(t, []Line{x, x}, api.ErrArg)
		for at := range 4 {
			for _, back := range []Line{{x.Account, -x.Amount}, {Loans, -x.Amount}} {
				checkLines(t, slices.Insert(append(pairs(2, 7), back), at, x), api.ErrArg)
			}
		}
		for _, at := range []int{0, 1, room / 2, room - 1} {
			l := pairs(room, 7)
			l[at] = x
			checkLines(t, l, api.ErrArg)
		}
	}
}

// P17.2: nothing but an account is wrong, at the first, a middle and the last place: all lines are 0 together still.
func TestWrongAccount(t *testing.T) {
	for _, n := range wrongNumbers() {
		for _, at := range []int{0, 1, room / 2, room - 1} {
			l := pairs(room, 7)
			l[at].Account = n
			checkLines(t, l, api.ErrArg)
		}
		checkLines(t, []Line{{n, 5}, {Cash, -5}}, api.ErrArg)
		checkLines(t, []Line{{Cash, 5}, {n, -5}}, api.ErrArg)
		checkLines(t, []Line{{n, 5}, {n, -5}}, api.ErrArg)
	}
}

// setOff are lines that may be, and that come to the negative of an amount.
func setOff(n int64) []Line {
	var l []Line
	for n != 0 {
		part := max(min(n, great), -great)
		l = append(l, Line{Cash, -part})
		n -= part
	}
	return l
}

// P17.2: a single line that is beyond its bounds, at the first, a middle and the last place of lines that are 0 all together.
func TestBeyond(t *testing.T) {
	for _, n := range []int64{great + 1, great + 2, 1<<50 + 1<<32, 2 * great, 3 * great, 62 * great} {
		for _, amount := range []int64{n, -n} {
			others := setOff(amount)
			for _, at := range []int{0, 1, len(others) / 2, len(others)} {
				checkLines(t, slices.Insert(slices.Clone(others), at, Line{Loans, amount}), api.ErrArg)
			}
		}
	}
}

// P17.2: wrong amounts that are 0 together, or would be if they went round, and parts that are.
func TestWrongTogether(t *testing.T) {
	for _, l := range [][]Line{
		{{Loans, least}, {Cash, least}},
		{{Loans, most}, {Cash, most}, {Income, 2}},
		{{Loans, most}, {Cash, -most}},
		{{Loans, great + 1}, {Cash, -great - 1}},
		{{Loans, 0}, {Cash, 0}},
		{{Loans, 1}, {Cash, -1}, {Income, 0}},
		slices.Repeat([]Line{{Loans, 1 << 58}}, room),
		slices.Repeat([]Line{{Loans, 1 << 62}}, 4),
	} {
		checkLines(t, l, api.ErrArg)
	}
}

// P17.2: that there are too many is told ahead of all else that is wrong.
func TestFullFirst(t *testing.T) {
	for _, x := range wrongLines() {
		for _, at := range []int{0, room / 2, room - 1, room} {
			l := pairs(room+1, 7)
			l[at] = x
			checkLines(t, l, api.ErrFull)
		}
	}
	checkLines(t, slices.Repeat([]Line{{Loans, great}}, room+1), api.ErrFull)
	checkLines(t, append(pairs(room, 7), Line{Cash, 0}), api.ErrFull)
}

// P17.2: lines anyhow: some that may be, and these with one thing changed.
func TestCheckAnyhow(t *testing.T) {
	r := rand.New(rand.NewSource(2))
	for range 3000 {
		l := someThatMayBe(r)
		checkLines(t, l, api.OK)
		at := r.Intn(len(l))
		l[at].Amount += r.Int63n(3) - 1
		l[r.Intn(len(l))].Account += r.Intn(3) - 1
		checkLines(t, l, slowCheck(l))
	}
}
