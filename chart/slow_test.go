package chart

import (
	"math"
	"math/big"
	"math/rand"
	"slices"
	"testing"

	"lombard/api"
)

const (
	great = 1 << 50
	room  = 64
	least = math.MinInt64
	most  = math.MaxInt64
)

// names are the chapter's, by their accounts' numbers; there is no account 0.
func names() []string {
	return []string{"", "cash", "loans", "allowance", "income", "effects", "impaired", "recovered"}
}

// wrongNumbers are beyond 1 to 7: one beyond, and far; the last ones are accounts, and kinds, if all but their lowest bits are cut off.
func wrongNumbers() []int {
	return []int{0, 8, -1, 9, -2, -7, -8, 63, 100, math.MinInt, math.MaxInt, math.MaxInt - 1, 8 + 1, 256 + 1, 1<<16 + 2, 1<<32 + 7, math.MinInt + 1, math.MinInt + 2, math.MinInt + 7}
}

// wrongAmounts are beyond -2^50 to 2^50.
func wrongAmounts() []int64 {
	return []int64{great + 1, -great - 1, great + 2, -great - 2, 2 * great, -2 * great, 1 << 60, -1 << 60, 1 << 62, -1 << 62, least, least + 1, most - 1, most}
}

// amounts may be, but for 0 in a line: the bounds, those beside them, and some ordinary ones.
func amounts() []int64 {
	return []int64{-great, -great + 1, -1 << 32, -1000, -2, -1, 0, 1, 2, 100, 1 << 31, great - 1, great}
}

// slowPost is P17.1 word by word.
func slowPost(kind int, amount int64) ([]Line, api.Errno) {
	if amount < -1125899906842624 || amount > 1125899906842624 {
		return nil, api.ErrArg
	}
	first, second := 0, 0
	switch kind {
	case 1:
		first, second = 2, 1
	case 2:
		first, second = 2, 4
	case 3:
		first, second = 1, 2
	case 4:
		first, second = 2, 5
	case 5:
		first, second = 6, 3
	case 6:
		first, second = 3, 2
	case 7:
		first, second = 1, 7
	default:
		return nil, api.ErrArg
	}
	if amount < 0 && (kind == 1 || kind == 3 || kind == 6 || kind == 7) {
		return nil, api.ErrArg
	}
	if amount == 0 {
		return nil, api.OK
	}
	return []Line{{Account: first, Amount: amount}, {Account: second, Amount: -amount}}, api.OK
}

// slowCheck is Check word by word, its sum in numbers of any size.
func slowCheck(l []Line) api.Errno {
	if len(l) > 64 {
		return api.ErrFull
	}
	if len(l) < 1 {
		return api.ErrArg
	}
	all := new(big.Int)
	for _, x := range l {
		if x.Account < 1 || x.Account > 7 {
			return api.ErrArg
		}
		if x.Amount == 0 || x.Amount < -1125899906842624 || x.Amount > 1125899906842624 {
			return api.ErrArg
		}
		all.Add(all, big.NewInt(x.Amount))
	}
	if all.Sign() != 0 {
		return api.ErrArg
	}
	return api.OK
}

// slowNet is Net word by word, its sums in numbers of any size.
func slowNet(l []Line) ([]Line, api.Errno) {
	var sums [8]big.Int
	for _, x := range l {
		if x.Account < 1 || x.Account > 7 {
			return nil, api.ErrArg
		}
		sums[x.Account].Add(&sums[x.Account], big.NewInt(x.Amount))
	}
	var net []Line
	for account := range sums {
		sum := &sums[account]
		if !sum.IsInt64() {
			return nil, api.ErrOver
		}
		if sum.Sign() != 0 {
			net = append(net, Line{Account: account, Amount: sum.Int64()})
		}
	}
	return net, api.OK
}

// told is a list of lines, but no more than the first few of it.
func told(l []Line) []Line {
	return l[:min(len(l), 8)]
}

// checkPost holds Post against what it should answer, and against slowPost.
func checkPost(t *testing.T, kind int, amount int64, want []Line, wantE api.Errno) {
	t.Helper()
	slow, slowE := slowPost(kind, amount)
	if !slices.Equal(slow, want) || slowE != wantE {
		t.Fatalf("%d, %d: slowly %v, %d; wanted %v, %d", kind, amount, slow, slowE, want, wantE)
	}
	if got, e := Post(kind, amount); !slices.Equal(got, want) || e != wantE {
		t.Errorf("%d, %d: %v, %d; wanted %v, %d", kind, amount, got, e, want, wantE)
	}
}

// checkLines holds Check against what it should answer, and against slowCheck.
func checkLines(t *testing.T, l []Line, want api.Errno) {
	t.Helper()
	if slow := slowCheck(l); slow != want {
		t.Fatalf("%d lines %v: slowly %d; wanted %d", len(l), told(l), slow, want)
	}
	if got := Check(l); got != want {
		t.Errorf("%d lines %v: %d; wanted %d", len(l), told(l), got, want)
	}
}

// checkSlow holds Net against slowNet, and answers what it answered.
func checkSlow(t *testing.T, l []Line) ([]Line, api.Errno) {
	t.Helper()
	got, e := Net(l)
	if want, wantE := slowNet(l); !slices.Equal(got, want) || e != wantE {
		t.Fatalf("%d lines %v: %v, %d; wanted %v, %d", len(l), told(l), got, e, want, wantE)
	}
	return got, e
}

// checkNet holds Net against what it should answer, and against slowNet.
func checkNet(t *testing.T, l, want []Line, wantE api.Errno) {
	t.Helper()
	if got, e := checkSlow(t, l); !slices.Equal(got, want) || e != wantE {
		t.Errorf("%d lines %v: %v, %d; wanted %v, %d", len(l), told(l), got, e, want, wantE)
	}
}

// on are lines on one account.
func on(account int, amounts ...int64) []Line {
	var l []Line
	for _, n := range amounts {
		l = append(l, Line{Account: account, Amount: n})
	}
	return l
}

// pairs are so many lines, of an amount and its negative in turns, that are 0 all together if their number is even.
func pairs(n int, amount int64) []Line {
	var l []Line
	for i := range n {
		l = append(l, Line{Account: 1 + i%7, Amount: amount})
		amount = -amount
	}
	return l
}

// someLines may be netted: of any accounts, their amounts now small, now of any size.
func someLines(r *rand.Rand, n int) []Line {
	var l []Line
	for range n {
		amount := r.Int63n(7) - 3
		switch r.Intn(8) {
		case 0:
			amount = int64(r.Uint64())
		case 1:
			amount = r.Int63n(2*great+1) - great
		}
		l = append(l, Line{Account: 1 + r.Intn(7), Amount: amount})
	}
	return l
}

// someThatMayBe are lines that may be: from 2 to 64, the last one sets the others off.
func someThatMayBe(r *rand.Rand) []Line {
	for {
		l := someLines(r, 1+r.Intn(room-1))
		sum := int64(0)
		for i := range l {
			l[i].Amount %= 1 << 44
			if l[i].Amount == 0 {
				l[i].Amount = 1
			}
			sum += l[i].Amount
		}
		if sum != 0 {
			return append(l, Line{Account: 1 + r.Intn(7), Amount: -sum})
		}
	}
}
