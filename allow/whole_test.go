package allow

import (
	"math/rand"
	"slices"
	"sync"
	"testing"

	"lombard/api"
)

// opening is what all Was are, by From, and what all Now are, by To.
func opening(l []Change) (was, now [3]int64) {
	for _, c := range l {
		was[c.From-1] += c.Was
		now[c.To-1] += c.Now
	}
	return was, now
}

// checkWhole holds a Roll against P16.3, without reckoning its rows.
func checkWhole(t *testing.T, open [3]int64, l []Change) [3]Row {
	t.Helper()
	rows, e := Roll(open, l)
	if e != api.OK {
		t.Fatalf("%v, %d changes %v: %d", open, len(l), told(l), e)
	}
	in, out := int64(0), int64(0)
	for i, r := range rows {
		if r.Open != open[i] || !Ties(r) || !slowTies(r) {
			t.Fatalf("%v, %d changes %v: the stage %d: %+v", open, len(l), told(l), i+1, r)
		}
		in, out = in+r.In, out+r.Out
	}
	net, e := Net(rows)
	if in != out || e != api.OK || net.In != in || net.Out != out || !Ties(net) || !slowTies(net) {
		t.Fatalf("%v, %d changes %v: %d in, %d out; %+v, %d", open, len(l), told(l), in, out, net, e)
	}
	return rows
}

// checkCloses holds the closes of a Roll, from what all Was are, against what all Now are.
func checkCloses(t *testing.T, l []Change) {
	t.Helper()
	was, now := opening(l)
	for i, r := range checkWhole(t, was, l) {
		if r.Close != now[i] {
			t.Fatalf("%d changes %v: the stage %d: %+v; wanted %d", len(l), told(l), i+1, r, now[i])
		}
	}
}

// P16.3: all In are all Out, each Row ties and their Net does, from any open; and Close is what all Now are, from what all Was are.
func TestWhole(t *testing.T) {
	r := rand.New(rand.NewSource(3))
	checkCloses(t, nil)
	for range 2000 {
		l := someChanges(r, r.Intn(40))
		checkWhole(t, someOpen(r), l)
		checkCloses(t, l)
	}
	for range 20 {
		l := someChanges(r, room)
		for i := range l {
			l[i].Was %= great / 2 // so that all Was are within what may be open
		}
		checkWhole(t, [3]int64{deep, deep, deep}, l)
		checkCloses(t, l)
	}
}

// P16.3: with the greatest amounts, as many as there may be, from the greatest open.
func TestWholeGreatest(t *testing.T) {
	for n := range 9 {
		for bits := range 8 {
			c := Change{1 + n%3, 1 + n/3, int64(bits&1) * great, int64(bits>>1&1) * great, int64(bits>>2) * great}
			checkWhole(t, [3]int64{deep, deep, deep}, slices.Repeat([]Change{c}, room))
			checkWhole(t, [3]int64{}, slices.Repeat([]Change{c}, room))
			checkCloses(t, slices.Repeat([]Change{c}, room/2)) // all Was are 2^60
		}
	}
}

// P16.3: period by period: a period opens with what the last one closed with, and each loan's allowance is where it was left.
func TestPeriods(t *testing.T) {
	r := rand.New(rand.NewSource(4))
	loans := make([]Change, api.MaxLoans)
	for i := range loans {
		loans[i] = Change{From: 1, To: 1}
	}
	open := [3]int64{}
	for range 200 {
		for i, c := range loans {
			loans[i] = Change{c.To, 1 + r.Intn(3), c.Now, someAmount(r), someAmount(r)}
		}
		was, now := opening(loans)
		if was != open {
			t.Fatalf("%v; wanted %v", open, was)
		}
		for i, w := range checkWhole(t, open, loans) {
			open[i] = w.Close
		}
		if open != now {
			t.Fatalf("%v; wanted %v", open, now)
		}
	}
}

// P16.1: the order of changes doesn't matter.
func TestOrder(t *testing.T) {
	r := rand.New(rand.NewSource(5))
	for i := range 300 {
		n := r.Intn(30)
		if i < 5 {
			n = room
		}
		l, open := someChanges(r, n), someOpen(r)
		want, _ := checkSlow(t, open, l)
		other := slices.Clone(l)
		slices.Reverse(other)
		for range 4 {
			if got, e := Roll(open, other); got != want || e != api.OK {
				t.Fatalf("%v, %v: %+v, %d; wanted %+v", open, told(other), got, e, want)
			}
			r.Shuffle(n, func(i, j int) { other[i], other[j] = other[j], other[i] })
		}
	}
}

// P16.1: changes one behind the other are what they are together: Roll from what the first ones closed with brings the rest.
func TestOneBehindTheOther(t *testing.T) {
	r := rand.New(rand.NewSource(6))
	for range 300 {
		l := someChanges(r, 2+r.Intn(20))
		at := 1 + r.Intn(len(l)-1)
		open := [3]int64{great * 64, great * 64, great * 64} // so that no stage closes below 0 on the way
		all := checkWhole(t, open, l)
		first := checkWhole(t, open, l[:at])
		second := checkWhole(t, [3]int64{first[0].Close, first[1].Close, first[2].Close}, l[at:])
		for i := range all {
			a, b := first[i], second[i]
			if want := (Row{a.Open, a.In + b.In, a.Out + b.Out, a.Anew + b.Anew, a.Written + b.Written, b.Close}); all[i] != want {
				t.Fatalf("%v, from %d: %+v; wanted %+v", l, at, all[i], want)
			}
		}
	}
}

// Rule 4: changes are as they were, with what lies beside them and in their spare room, whatever is answered.
func TestNotChanged(t *testing.T) {
	l := []Change{{-1, 9, least, most, 5}, {1, 2, 4, 7, 0}, {2, 2, 5, 5, 5}, {3, 1, great, 0, great}, {}, {4, 0, -1, -1, -1}}
	was := slices.Clone(l)
	for from := range l {
		for to := from; to <= len(l); to++ {
			for _, open := range [][3]int64{{}, {deep, 1, 2}, {-1, 0, 0}} {
				Roll(open, l[from:to])
			}
		}
	}
	long := slices.Repeat(was, room)
	Roll([3]int64{}, long)
	if !slices.Equal(l, was) || !slices.Equal(long, slices.Repeat(was, room)) {
		t.Error(l)
	}
}

// Rules 4 and 5: what was answered stays, though the changes become others; and once more the same is answered.
func TestNotKept(t *testing.T) {
	l := []Change{{1, 2, 4, 7, 0}, {2, 3, 7, 9, 1}}
	open := [3]int64{10, 0, 0}
	first, _ := Roll(open, l)
	kept := first
	other := slices.Clone(l)
	for i := range l {
		l[i] = Change{3, 3, 1, 1, 1}
	}
	Roll([3]int64{deep, deep, deep}, l)
	again, e := Roll(open, other)
	if first != kept || again != first || e != api.OK {
		t.Errorf("%+v, %d; wanted %+v", again, e, kept)
	}
}

// Rule 5: calls at the same time don't touch one another, though they share their changes.
func TestAtOnce(t *testing.T) {
	l := someChanges(rand.New(rand.NewSource(7)), 200)
	var joined sync.WaitGroup
	for i := range 8 {
		joined.Go(func() {
			open := [3]int64{int64(i), deep, int64(i) * 100}
			part := l[i*10:]
			want, wantE, _ := slowRoll(open, part)
			wantNet, wantNetE := slowNet(want)
			for range 50 {
				got, e := Roll(open, part)
				if got != want || e != wantE {
					t.Errorf("%d: %+v, %d; wanted %+v, %d", i, got, e, want, wantE)
				}
				if net, e := Net(got); net != wantNet || e != wantNetE || !Ties(net) {
					t.Errorf("%d: %+v, %d; wanted %+v, %d", i, net, e, wantNet, wantNetE)
				}
				Roll(open, []Change{{}})
			}
		})
	}
	joined.Wait()
}

// The generic function itself, of other types: each item is told once, in order; what it puts by a key is summed up, however often it puts, and a key to which nothing was put isn't there.
func TestGather(t *testing.T) {
	var asked []string
	sums := gather([]string{"ab", "c", "", "ba"}, func(item string, put func(rune, int)) {
		asked = append(asked, item)
		for i, letter := range item {
			put(letter, i+1)
			put('*', 1)
		}
	})
	if len(sums) != 4 || sums['a'] != 3 || sums['b'] != 3 || sums['c'] != 1 || sums['*'] != 5 {
		t.Error(sums)
	}
	if !slices.Equal(asked, []string{"ab", "c", "", "ba"}) {
		t.Error(asked)
	}
	for _, none := range [][]int{nil, {}, {1, 2}} {
		if sums := gather(none, func(int, func(string, int64)) {}); len(sums) != 0 {
			t.Error(sums)
		}
	}
	pairs := gather([]int64{5, -5, most, 1}, func(n int64, put func([2]bool, int64)) {
		put([2]bool{n > 0, n%2 == 0}, n%10)
	})
	if len(pairs) != 2 || pairs[[2]bool{true, false}] != 5+7+1 || pairs[[2]bool{false, false}] != -5 {
		t.Error(pairs)
	}
}
