package chart

import (
	"math/rand"
	"slices"
	"sync"
	"testing"

	"lombard/api"
)

// P17.3: what is posted may be, if it isn't nothing, and its net is what was posted, the least account first.
func TestPostedMayBe(t *testing.T) {
	posted := 0
	for kind := -2; kind < 12; kind++ {
		for _, n := range append(amounts(), wrongAmounts()...) {
			l, e := Post(kind, n)
			if e != api.OK || n == 0 {
				if len(l) != 0 {
					t.Errorf("%d, %d: %v, %d", kind, n, l, e)
				}
				continue
			}
			posted++
			if e := Check(l); len(l) != 2 || e != api.OK {
				t.Fatalf("%d, %d: %v: %d", kind, n, l, e)
			}
			if l[0].Account > l[1].Account {
				slices.Reverse(l)
			}
			checkNet(t, l, slices.Clone(l), api.OK)
		}
	}
	// Six amounts above 0, for each kind, and six below it, for three.
	if posted != 7*6+3*6 {
		t.Error(posted)
	}
}

// P17.3: the negative is posted as the negative, where it may be posted, on the same accounts.
func TestNegative(t *testing.T) {
	both := 0
	for kind := Outlay; kind <= Recover; kind++ {
		for _, n := range amounts() {
			l, e := Post(kind, n)
			other, otherE := Post(kind, -n)
			if e != api.OK || otherE != api.OK {
				continue
			}
			both++
			for i := range other {
				other[i].Amount = -other[i].Amount
			}
			if !slices.Equal(l, other) {
				t.Errorf("%d, %d: %v; turned %v", kind, n, l, other)
			}
			checkNet(t, append(l, mustPost(t, kind, -n)...), nil, api.OK)
		}
	}
	// Of 0 for all kinds, and of twelve other amounts for three.
	if both != 7+3*12 {
		t.Error(both)
	}
}

func mustPost(t *testing.T, kind int, amount int64) []Line {
	t.Helper()
	l, e := Post(kind, amount)
	if e != api.OK {
		t.Fatalf("%d, %d: %d", kind, amount, e)
	}
	return l
}

// P17.3: postings one behind the other may be, if there are no more than 64 lines, and what they come to is 0 all together.
func TestPostings(t *testing.T) {
	r := rand.New(rand.NewSource(5))
	for range 1000 {
		var l []Line
		for range 1 + r.Intn(room/2) {
			l = append(l, mustPost(t, 1+r.Intn(7), 1+r.Int63n(great))...)
		}
		checkLines(t, l, api.OK)
		checkNothing(t, l)
	}
	var l []Line
	for _, x := range []struct {
		kind   int
		amount int64
	}{{Outlay, 1000}, {Provide, 10}, {Interest, 67}, {Receipt, 500}, {Adjust, -7}, {WriteOff, 60}, {Recover, 20}, {Receipt, 0}, {Provide, -4}} {
		l = append(l, mustPost(t, x.kind, x.amount)...)
	}
	checkNet(t, l, []Line{{Cash, -480}, {Loans, 500}, {Allowance, 54}, {Income, -67}, {Effects, 7}, {Impaired, 6}, {Recovered, -20}}, api.OK)
}

// checkNothing asks whether lines' net is 0 all together. It is of lines that may be, so no sum is too great.
func checkNothing(t *testing.T, l []Line) {
	t.Helper()
	net, e := checkSlow(t, l)
	sum := int64(0)
	for _, x := range net {
		sum += x.Amount
	}
	if sum != 0 || e != api.OK {
		t.Fatalf("%d lines %v: %v, %d", len(l), told(l), net, e)
	}
}

// P17.3: Net of Net is Net, and of lines that may be 0 all together.
func TestNetOfNet(t *testing.T) {
	r := rand.New(rand.NewSource(6))
	for i := range 4000 {
		l := someLines(r, i%50)
		if i%2 == 0 {
			l = someThatMayBe(r)
			checkLines(t, l, api.OK)
			checkNothing(t, l)
		}
		net, e := checkSlow(t, l)
		if e == api.OK {
			checkNet(t, net, slices.Clone(net), api.OK)
		}
	}
	for _, n := range []int64{great, -great} {
		checkNothing(t, pairs(room, n))
		checkNothing(t, append(slices.Repeat(on(Loans, n), room/2), slices.Repeat(on(Cash, -n), room/2)...))
	}
	for _, x := range sums() {
		for account := Cash; account <= Recovered; account++ {
			if net, e := Net(on(account, x.amounts...)); e == api.OK {
				checkNet(t, net, slices.Clone(net), api.OK)
			}
		}
	}
}

// P17.2: lines in parts net to what they do at once, as long as no part's sum is too great.
func TestNetInParts(t *testing.T) {
	r := rand.New(rand.NewSource(7))
	for range 1000 {
		l := append(someThatMayBe(r), someThatMayBe(r)...)
		at := r.Intn(len(l) + 1)
		first, _ := checkSlow(t, l[:at])
		second, _ := checkSlow(t, l[at:])
		want, _ := checkSlow(t, l)
		checkNet(t, append(first, second...), want, api.OK)
	}
}

// Rule 4: lines are as they were, with what lies beside them and in their spare room, whatever is answered.
func TestNotChanged(t *testing.T) {
	l := []Line{{Loans, 100}, {Cash, -100}, {3, -5}, {1, 5}, {0, 9}, {}, {7, most}, {7, 1}, {2, 0}, {5, least}}
	was := slices.Clone(l)
	for from := range l {
		for to := from; to <= len(l); to++ {
			Check(l[from:to])
			Net(l[from:to])
		}
	}
	long := slices.Repeat(was, room)
	Check(long)
	Net(long)
	if !slices.Equal(l, was) || !slices.Equal(long, slices.Repeat(was, room)) {
		t.Error(l)
	}
}

// overwrite fills lines and their spare room.
func overwrite(l []Line) {
	l = l[:cap(l)]
	for i := range l {
		l[i] = Line{-1, -1}
	}
}

// Rules 4 and 5: answers share nothing with one another, and what was answered once is answered again.
func TestNotShared(t *testing.T) {
	for kind := Outlay; kind <= Recover; kind++ {
		first, second := mustPost(t, kind, 100), mustPost(t, kind, 100)
		kept := slices.Clone(second)
		overwrite(first)
		if third := mustPost(t, kind, 100); !slices.Equal(second, kept) || !slices.Equal(third, kept) {
			t.Errorf("%d: %v, %v; wanted %v", kind, second, third, kept)
		}
	}
	for _, l := range [][]Line{{{Cash, 3}}, {{Cash, 1}, {Loans, 2}}, {{Loans, 5}, {Cash, -5}, {Loans, 1}}, {{1, 1}, {2, 2}, {3, 3}, {4, 4}, {5, 5}, {6, 6}, {7, 7}}} {
		was := slices.Clone(l)
		first, _ := checkSlow(t, l)
		second, _ := checkSlow(t, l)
		kept := slices.Clone(second)
		overwrite(first)
		if !slices.Equal(l, was) || !slices.Equal(second, kept) {
			t.Errorf("%v: %v; wanted %v", l, second, kept)
		}
		overwrite(l)
		checkNet(t, was, kept, api.OK)
		if !slices.Equal(second, kept) {
			t.Errorf("%v: %v; wanted %v", was, second, kept)
		}
	}
}

// Rule 4: Net of a Net, though it is the same, is other memory; so it is of lines with spare room.
func TestNetIsNew(t *testing.T) {
	net, _ := Net([]Line{{Loans, 100}, {Cash, -100}, {Income, 3}})
	kept := slices.Clone(net)
	again, e := Net(net)
	overwrite(again)
	if !slices.Equal(net, kept) || e != api.OK {
		t.Errorf("%v, %d; wanted %v", net, e, kept)
	}
	roomy := make([]Line, 2, 10)
	roomy[0], roomy[1] = Line{Cash, 1}, Line{Loans, 2}
	again, _ = Net(roomy)
	overwrite(again)
	if !slices.Equal(roomy, []Line{{Cash, 1}, {Loans, 2}}) || !slices.Equal(roomy[2:10], make([]Line, 8)) {
		t.Error(roomy[:10])
	}
}

// Rule 5: calls at the same time don't touch one another, though they share their lines.
func TestAtOnce(t *testing.T) {
	l := someThatMayBe(rand.New(rand.NewSource(8)))
	var joined sync.WaitGroup
	for i := range 8 {
		joined.Go(func() {
			part := l[i%len(l):]
			wantNet, wantNetE := slowNet(part)
			wantCheck := slowCheck(part)
			wantPost, wantPostE := slowPost(i, int64(i)+5)
			for range 200 {
				if net, e := Net(part); !slices.Equal(net, wantNet) || e != wantNetE {
					t.Errorf("%d: %v, %d; wanted %v, %d", i, net, e, wantNet, wantNetE)
				}
				if e := Check(part); e != wantCheck {
					t.Errorf("%d: %d; wanted %d", i, e, wantCheck)
				}
				post, e := Post(i, int64(i)+5)
				if !slices.Equal(post, wantPost) || e != wantPostE {
					t.Errorf("%d: %v, %d; wanted %v, %d", i, post, e, wantPost, wantPostE)
				}
				overwrite(post)
				if Name(i) != names()[i] || Account(names()[i]) != i {
					t.Errorf("%d: %q, %d", i, Name(i), Account(names()[i]))
				}
			}
		})
	}
	joined.Wait()
}
