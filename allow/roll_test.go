package allow

import (
	"math/rand"
	"slices"
	"testing"

	"lombard/api"
)

// P16.1: by hand, the document's example first.
func TestRollNamed(t *testing.T) {
	for _, x := range []struct {
		open [3]int64
		l    []Change
		want [3]Row
	}{
		{[3]int64{10, 0, 0}, []Change{{From: 1, To: 2, Was: 4, Now: 7}}, [3]Row{{Open: 10, Out: 4, Close: 6}, {In: 4, Anew: 3, Close: 7}, {}}},
		{[3]int64{10, 0, 0}, []Change{{From: 1, To: 1, Was: 4, Now: 7}}, [3]Row{{Open: 10, Anew: 3, Close: 13}, {}, {}}},
		{[3]int64{10, 0, 0}, []Change{{From: 1, To: 3, Was: 7, Now: 4}}, [3]Row{{Open: 10, Out: 7, Close: 3}, {}, {In: 7, Anew: -3, Close: 4}}},
		{[3]int64{0, 10, 5}, []Change{{From: 3, To: 2, Was: 5, Now: 5}}, [3]Row{{}, {Open: 10, In: 5, Close: 15}, {Open: 5, Out: 5}}},
		{[3]int64{0, 0, 30}, []Change{{From: 3, To: 3, Was: 30, Written: 30}}, [3]Row{{}, {}, {Open: 30, Written: 30}}},                                     // what is written off was provided for
		{[3]int64{0, 0, 30}, []Change{{From: 3, To: 3, Was: 30, Written: 1000}}, [3]Row{{}, {}, {Open: 30, Anew: 970, Written: 1000}}},                      // or is now
		{[3]int64{0, 0, 30}, []Change{{From: 3, To: 3, Was: 30, Now: 25, Written: 3}}, [3]Row{{}, {}, {Open: 30, Anew: -2, Written: 3, Close: 25}}},         // written off, and reckoned anew
		{[3]int64{8, 0, 0}, []Change{{From: 1, To: 3, Was: 8, Now: 2, Written: 5}}, [3]Row{{Open: 8, Out: 8}, {}, {In: 8, Anew: -1, Written: 5, Close: 2}}}, // of the stage To
		{[3]int64{}, []Change{{From: 1, To: 2, Was: 4, Now: 4}}, [3]Row{{Out: 4, Close: -4}, {In: 4, Close: 4}, {}}},                                        // more goes out than there was
		{[3]int64{1, 2, 3}, []Change{{From: 1, To: 2, Was: 1, Now: 1}, {From: 2, To: 3, Was: 2, Now: 2}, {From: 3, To: 1, Was: 3, Now: 3}}, [3]Row{{Open: 1, In: 3, Out: 1, Close: 3}, {Open: 2, In: 1, Out: 2, Close: 1}, {Open: 3, In: 2, Out: 3, Close: 2}}},
		{[3]int64{4, 0, 0}, []Change{{From: 1, To: 2, Was: 4, Now: 7}, {From: 2, To: 1, Was: 7, Now: 3}, {From: 1, To: 1, Was: 3, Now: 9}}, [3]Row{{Open: 4, In: 7, Out: 4, Anew: 2, Close: 9}, {In: 4, Out: 7, Anew: 3}, {}}}, // there and back
		{[3]int64{5, 0, 0}, []Change{{From: 1, To: 1}, {From: 2, To: 3}}, [3]Row{{Open: 5, Close: 5}, {}, {}}},
	} {
		checkRoll(t, x.open, x.l, x.want)
	}
}

// P16.1, rule 3: of no changes, nil or empty, each stage closes as it opened.
func TestRollNone(t *testing.T) {
	wrong := []Change{{From: -1}, {To: 9}}
	for _, l := range [][]Change{nil, {}, make([]Change, 0, 9), wrong[2:], wrong[:0]} {
		checkRoll(t, [3]int64{}, l, [3]Row{})
		checkRoll(t, [3]int64{1, 2, 3}, l, [3]Row{{Open: 1, Close: 1}, {Open: 2, Close: 2}, {Open: 3, Close: 3}})
		for _, n := range opens() {
			checkRoll(t, [3]int64{n, 0, 0}, l, [3]Row{{Open: n, Close: n}, {}, {}})
			checkRoll(t, [3]int64{0, n, 0}, l, [3]Row{{}, {Open: n, Close: n}, {}})
			checkRoll(t, [3]int64{0, 0, n}, l, [3]Row{{}, {}, {Open: n, Close: n}})
			checkRoll(t, [3]int64{n, n, n}, l, [3]Row{{Open: n, Close: n}, {Open: n, Close: n}, {Open: n, Close: n}})
		}
	}
}

// P16.1: one change, of all stages that may be and all amounts at the bounds and beside them.
func TestRollOne(t *testing.T) {
	for from := 1; from <= 3; from++ {
		for to := 1; to <= 3; to++ {
			for _, was := range amounts() {
				for _, now := range amounts() {
					for _, off := range amounts() {
						for _, open := range [][3]int64{{}, {deep, deep, deep}, {1000, 10, 1}} {
							checkSlow(t, open, []Change{{from, to, was, now, off}})
						}
					}
				}
			}
		}
	}
}

// P16.1: two changes, of all stages; each puts to its own.
func TestRollTwo(t *testing.T) {
	for n := range 81 {
		a := Change{1 + n%3, 1 + n/3%3, 4, 7, 1}
		b := Change{1 + n/9%3, 1 + n/27, 50, 20, 10}
		checkSlow(t, [3]int64{100, 200, 300}, []Change{a, b})
		checkSlow(t, [3]int64{100, 200, 300}, []Change{b, a})
		checkSlow(t, [3]int64{}, []Change{a, b, a})
	}
}

// P16.1: rows of changes, short and long.
func TestRollSome(t *testing.T) {
	r := rand.New(rand.NewSource(1))
	for range 2000 {
		checkSlow(t, someOpen(r), someChanges(r, r.Intn(40)))
	}
	for range 20 {
		checkSlow(t, someOpen(r), someChanges(r, room-r.Intn(2)))
	}
}

// P16.1: a change of one stage alone comes in nowhere, and goes out nowhere, whatever the stage.
func TestRollWithin(t *testing.T) {
	for stage := 1; stage <= 3; stage++ {
		want := [3]Row{{Open: 9, Close: 9}, {Open: 9, Close: 9}, {Open: 9, Close: 9}}
		want[stage-1] = Row{Open: 9, Anew: 5, Written: 2, Close: 12}
		checkRoll(t, [3]int64{9, 9, 9}, []Change{{stage, stage, 4, 7, 2}}, want)
	}
}

// P16.1: as many changes as there may be, with the greatest amounts, all of one stage, beside the greatest open: nothing goes round.
func TestRollGreatest(t *testing.T) {
	const all = room * great
	for stage := range 3 {
		for _, x := range []struct {
			c    Change
			want Row
		}{
			{Change{Now: great}, Row{Open: deep, Anew: all, Close: deep + all}},
			{Change{Now: great, Written: great}, Row{Open: deep, Anew: 2 * all, Written: all, Close: deep + all}},
			{Change{Was: great}, Row{Open: deep, Anew: -all, Close: deep - all}},
			{Change{Was: great, Written: great}, Row{Open: deep, Written: all, Close: deep - all}},
			{Change{Was: great, Now: great, Written: great}, Row{Open: deep, Anew: all, Written: all, Close: deep}},
		} {
			x.c.From, x.c.To = stage+1, stage+1
			want := [3]Row{{Open: deep, Close: deep}, {Open: deep, Close: deep}, {Open: deep, Close: deep}}
			want[stage] = x.want
			checkRoll(t, [3]int64{deep, deep, deep}, slices.Repeat([]Change{x.c}, room), want)
		}
	}
}

// P16.1: the same from one stage to another.
func TestRollGreatestMoved(t *testing.T) {
	const all = room * great
	for _, x := range []struct {
		c    Change
		from Row
		to   Row
	}{
		{Change{Was: great}, Row{Open: deep, Out: all, Close: deep - all}, Row{Open: deep, In: all, Anew: -all, Close: deep}},
		{Change{Now: great, Written: great}, Row{Open: deep, Close: deep}, Row{Open: deep, Anew: 2 * all, Written: all, Close: deep + all}},
		{Change{Was: great, Now: great, Written: great}, Row{Open: deep, Out: all, Close: deep - all}, Row{Open: deep, In: all, Anew: all, Written: all, Close: deep + all}},
	} {
		for n := range 9 {
			if n%3 == n/3 {
				continue
			}
			x.c.From, x.c.To = n%3+1, n/3+1
			want := [3]Row{{Open: deep, Close: deep}, {Open: deep, Close: deep}, {Open: deep, Close: deep}}
			want[n%3], want[n/3] = x.from, x.to
			checkRoll(t, [3]int64{deep, deep, deep}, slices.Repeat([]Change{x.c}, room), want)
		}
	}
}

// P16.1: as many changes as there may be, and more.
func TestRollCount(t *testing.T) {
	for _, c := range []Change{{1, 1, 0, 0, 0}, {1, 2, 4, 7, 0}, {3, 3, great, great, great}} {
		for _, n := range []int{1, 2, room - 1, room} {
			if _, e := checkSlow(t, [3]int64{deep, 0, 1}, slices.Repeat([]Change{c}, n)); e != api.OK {
				t.Error(n, e)
			}
		}
		for _, n := range []int{room + 1, room + 2, 2 * room, 1 << 20} {
			checkRefused(t, [3]int64{deep, 0, 1}, slices.Repeat([]Change{c}, n), api.ErrFull)
		}
	}
	spare := slices.Grow(slices.Repeat([]Change{{From: 1, To: 1}}, room), room)
	checkRoll(t, [3]int64{}, spare, [3]Row{})
}
