package allow

import (
	"slices"
	"testing"

	"lombard/api"
)

// P16.1: an open beyond its bounds, of each stage, with changes and without.
func TestWrongOpen(t *testing.T) {
	for _, n := range wrongOpens() {
		for _, open := range [][3]int64{{n}, {0, n}, {0, 0, n}, {n, n, n}, {n, deep, 1}, {1, n, deep}, {deep, 1, n}} {
			for _, l := range [][]Change{nil, {{1, 2, 4, 7, 0}}, slices.Repeat([]Change{{3, 3, 1, 1, 1}}, room)} {
				checkRefused(t, open, l, api.ErrArg)
			}
		}
	}
}

// P16.1: a change that may not be, alone.
func TestWrongChange(t *testing.T) {
	for _, c := range wrongChanges() {
		checkRefused(t, [3]int64{10, 0, 0}, []Change{c}, api.ErrArg)
		checkRefused(t, [3]int64{}, []Change{c}, api.ErrArg)
	}
}

// P16.1: the bounds are the very last that may be, in each part of a change, and of open.
func TestBounds(t *testing.T) {
	may := Change{2, 2, 5, 5, 5}
	for _, x := range []struct{ last, beyond Change }{
		{Change{1, 2, 5, 5, 5}, Change{0, 2, 5, 5, 5}},
		{Change{3, 2, 5, 5, 5}, Change{4, 2, 5, 5, 5}},
		{Change{2, 1, 5, 5, 5}, Change{2, 0, 5, 5, 5}},
		{Change{2, 3, 5, 5, 5}, Change{2, 4, 5, 5, 5}},
		{Change{2, 2, 0, 5, 5}, Change{2, 2, -1, 5, 5}},
		{Change{2, 2, great, 5, 5}, Change{2, 2, great + 1, 5, 5}},
		{Change{2, 2, 5, 0, 5}, Change{2, 2, 5, -1, 5}},
		{Change{2, 2, 5, great, 5}, Change{2, 2, 5, great + 1, 5}},
		{Change{2, 2, 5, 5, 0}, Change{2, 2, 5, 5, -1}},
		{Change{2, 2, 5, 5, great}, Change{2, 2, 5, 5, great + 1}},
	} {
		if _, e := checkSlow(t, [3]int64{}, []Change{may, x.last}); e != api.OK {
			t.Errorf("%+v: %d", x.last, e)
		}
		checkRefused(t, [3]int64{}, []Change{may, x.beyond}, api.ErrArg)
	}
	for i := range 3 {
		for _, n := range []int64{0, deep} {
			open := [3]int64{7, 7, 7}
			open[i] = n
			if _, e := checkSlow(t, open, []Change{may}); e != api.OK {
				t.Errorf("%v: %d", open, e)
			}
		}
		for _, n := range []int64{-1, deep + 1} {
			open := [3]int64{7, 7, 7}
			open[i] = n
			checkRefused(t, open, []Change{may}, api.ErrArg)
		}
	}
}

// P16.1: a wrong change at any place of a short list, and at the first, a middle and the last one of a long one.
func TestWrongPlace(t *testing.T) {
	for _, c := range wrongChanges() {
		for at := range 5 {
			l := slices.Repeat([]Change{{1, 2, 4, 7, 0}}, 5)
			l[at] = c
			checkRefused(t, [3]int64{10, 0, 0}, l, api.ErrArg)
		}
	}
	for _, c := range []Change{{}, {From: 4, To: 1}, {From: 1, To: 4}, {1, 1, -1, 0, 0}, {1, 1, 0, great + 1, 0}, {1, 1, 0, 0, least}} {
		for _, at := range []int{0, 1, room / 2, room - 2, room - 1} {
			l := slices.Repeat([]Change{{1, 2, 4, 7, 0}}, room)
			l[at] = c
			checkRefused(t, [3]int64{10, 0, 0}, l, api.ErrArg)
		}
	}
}

// P16.1: that there are too many changes is told ahead of all else that is wrong.
func TestFullFirst(t *testing.T) {
	for _, c := range []Change{{1, 1, 0, 0, 0}, {}, {0, 4, -1, great + 1, least}} {
		for _, n := range []int{room + 1, 2 * room} {
			for _, at := range []int{0, room / 2, room, n - 1} {
				l := slices.Repeat([]Change{{1, 2, 4, 7, 0}}, n)
				l[at] = c
				for _, open := range [][3]int64{{}, {-1, 0, 0}, {0, deep + 1, 0}, {0, 0, least}} {
					checkRefused(t, open, l, api.ErrFull)
				}
			}
		}
	}
}

// P16.1: open and changes that are wrong at once.
func TestWrongAtOnce(t *testing.T) {
	for _, n := range wrongOpens() {
		for _, c := range wrongChanges() {
			checkRefused(t, [3]int64{n, 0, n}, []Change{{1, 2, 4, 7, 0}, c, c}, api.ErrArg)
		}
	}
}

// P16.1: wrong amounts that are right together, or would be if they went round, are wrong still.
func TestWrongTogether(t *testing.T) {
	for _, l := range [][]Change{
		{{1, 2, -4, 7, 0}, {1, 2, 4, 7, 0}},
		{{1, 1, -5, -5, 0}},
		{{1, 1, least, least, 0}},
		{{1, 1, most, most, 0}},
		{{1, 1, 0, -5, 5}},
		{{1, 1, 0, least, least}},
		{{2, 2, 4, great + 4, 0}},
		{{0, 0, 4, 7, 0}},
		{{4, 4, 0, 0, 0}},
	} {
		checkRefused(t, [3]int64{}, l, api.ErrArg)
	}
	for _, open := range [][3]int64{{-1, 1, 0}, {0, least, least}, {deep + 1, -1, 0}, {most, 1, least}} {
		checkRefused(t, open, []Change{{1, 2, 4, 7, 0}}, api.ErrArg)
	}
}
