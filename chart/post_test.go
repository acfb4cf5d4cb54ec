package chart

import (
	"math/rand"
	"testing"

	"lombard/api"
)

// The chapter's numbers.
func TestNumbers(t *testing.T) {
	if got := [7]int{Cash, Loans, Allowance, Income, Effects, Impaired, Recovered}; got != [7]int{1, 2, 3, 4, 5, 6, 7} {
		t.Error(got)
	}
	if got := [7]int{Outlay, Interest, Receipt, Adjust, Provide, WriteOff, Recover}; got != [7]int{1, 2, 3, 4, 5, 6, 7} {
		t.Error(got)
	}
}

// P17.1: each kind, by hand: the document's example first.
func TestPostNamed(t *testing.T) {
	checkPost(t, Outlay, 100, []Line{{Loans, 100}, {Cash, -100}}, api.OK)
	checkPost(t, Interest, 67, []Line{{Loans, 67}, {Income, -67}}, api.OK)
	checkPost(t, Receipt, 500, []Line{{Cash, 500}, {Loans, -500}}, api.OK)
	checkPost(t, Adjust, 98, []Line{{Loans, 98}, {Effects, -98}}, api.OK)
	checkPost(t, Provide, 10, []Line{{Impaired, 10}, {Allowance, -10}}, api.OK)
	checkPost(t, WriteOff, 1000, []Line{{Allowance, 1000}, {Loans, -1000}}, api.OK)
	checkPost(t, Recover, 20, []Line{{Cash, 20}, {Recovered, -20}}, api.OK)
}

// P17.1: three kinds may be of less than 0, four may not.
func TestPostBelow(t *testing.T) {
	for _, n := range []int64{-1, -2, -67, -great + 1, -great} {
		checkPost(t, Interest, n, []Line{{Loans, n}, {Income, -n}}, api.OK)
		checkPost(t, Adjust, n, []Line{{Loans, n}, {Effects, -n}}, api.OK)
		checkPost(t, Provide, n, []Line{{Impaired, n}, {Allowance, -n}}, api.OK)
		for _, kind := range []int{Outlay, Receipt, WriteOff, Recover} {
			checkPost(t, kind, n, nil, api.ErrArg)
		}
	}
}

// P17.1: of 0 there are no lines, whatever the kind; of each bound there are, and of what is one beyond it none.
func TestPostEdges(t *testing.T) {
	for kind := Outlay; kind <= Recover; kind++ {
		checkPost(t, kind, 0, nil, api.OK)
		for _, n := range amounts() {
			want, e := slowPost(kind, n)
			checkPost(t, kind, n, want, e)
		}
		for _, n := range []int64{1, great - 1, great} {
			if l, e := Post(kind, n); len(l) != 2 || e != api.OK {
				t.Errorf("%d, %d: %v, %d", kind, n, l, e)
			}
		}
		for _, n := range wrongAmounts() {
			checkPost(t, kind, n, nil, api.ErrArg)
		}
	}
}

// P17.1: no such kind, of amounts that may be, 0 among them, and of such as may not.
func TestPostWrongKind(t *testing.T) {
	for _, kind := range wrongNumbers() {
		for _, n := range append(amounts(), wrongAmounts()...) {
			checkPost(t, kind, n, nil, api.ErrArg)
		}
	}
}

// P17.1: kinds and amounts anyhow.
func TestPostAnyhow(t *testing.T) {
	r := rand.New(rand.NewSource(1))
	for range 20000 {
		kind, n := r.Intn(10)-1, int64(r.Uint64())>>r.Intn(64)
		want, e := slowPost(kind, n)
		checkPost(t, kind, n, want, e)
	}
}
