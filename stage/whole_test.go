package stage

import (
	"math/rand"
	"slices"
	"sync"
	"testing"

	"lombard/api"
)

// checkWay holds a row of stages against P14.3, without reckoning it: worse at once; better by one at a time, behind three better marks in a row, all of them in the stage that is left; and three of them are enough.
func checkWay(t *testing.T, l []Mark, stages []int) (worse, better int) {
	t.Helper()
	ahead, row := 1, 0 // row: better marks since the stage came to be, or since a mark that was no better
	for i, n := range stages {
		worst := Worst(l[i])
		if worst < ahead {
			row++
		} else {
			row = 0
		}
		switch {
		case worst > ahead:
			if n != worst {
				t.Fatalf("%v: %v: at %d it isn't worse at once", l, stages, i)
			}
			worse++
		case row == 3:
			if n != ahead-1 {
				t.Fatalf("%v: %v: at %d it isn't better by one", l, stages, i)
			}
			better++
			row = 0
		case n != ahead:
			t.Fatalf("%v: %v: at %d it changes", l, stages, i)
		}
		ahead = n
	}
	return worse, better
}

// P14.3: all rows of up to eight marks.
func TestWayOfAllRows(t *testing.T) {
	for n := 1; n <= 8; n++ {
		eachRow(n, func(row []int) {
			l := telling(row...)
			stages, e := Run(l)
			if e != api.OK || len(stages) != n {
				t.Fatalf("%v: %v, %d", row, stages, e)
			}
			checkWay(t, l, stages)
		})
	}
}

// P14.3: any long rows.
func TestWayOfAny(t *testing.T) {
	r := rand.New(rand.NewSource(3))
	worse, better := 0, 0
	for range 300 {
		l := someMarks(r, room)
		stages, e := Run(l)
		if e != api.OK || len(stages) != room {
			t.Fatalf("%v: %v, %d", l, stages, e)
		}
		w, b := checkWay(t, l, stages)
		worse, better = worse+w, better+b
	}
	if worse < 1000 || better < 1000 {
		t.Error("too few:", worse, better)
	}
}

// P14.3: by one mark no stage gets better by more than one, nor without two better ones ahead; marks that are no better never make it better, and set Good back to 0.
func TestOneMark(t *testing.T) {
	for _, s := range states() {
		for _, m := range marks() {
			next, e := Next(s, m)
			worst := Worst(m)
			if e != api.OK || next.Stage < s.Stage-1 || next.Stage < worst || next.Stage < s.Stage && s.Good != 2 {
				t.Errorf("%+v, %+v: %+v, %d", s, m, next, e)
			}
			if worst >= s.Stage && (next.Stage != worst || next.Good != 0) {
				t.Errorf("%+v, %+v, which is no better: %+v", s, m, next)
			}
		}
	}
}

// P14.3: however many marks that are no better come, the stage stays; and two better ones between them don't help.
func TestNoBetterNeverHelps(t *testing.T) {
	for n := 2; n <= 3; n++ {
		for _, m := range of(n) {
			for _, good := range of(n - 1) {
				l := slices.Repeat([]Mark{m, good, good}, room/3)
				checkRun(t, l, slices.Repeat([]int{n}, room)...)
				l = slices.Repeat([]Mark{m, good}, room/2)
				checkRun(t, l, slices.Repeat([]int{n}, room)...)
			}
		}
	}
}

// P14.3: three better marks in a row are enough at any time, whatever came ahead.
func TestThreeHelp(t *testing.T) {
	for ahead := range 10 {
		for _, worst := range of(3) {
			for _, good := range slices.Concat(of(1), of(2)) {
				l := append(slices.Repeat([]Mark{worst}, ahead+1), good, good, good)
				want := append(slices.Repeat([]int{3}, ahead+3), 2)
				checkRun(t, l, want...)
			}
		}
	}
}

// P14.3: of a mark the stage that it tells counts, and nothing else.
func TestWorstAlone(t *testing.T) {
	for _, s := range states() {
		for n := 1; n <= 3; n++ {
			want, e := Next(s, of(n)[0])
			for _, m := range marks() {
				if Worst(m) == n {
					checkNext(t, s, m, want, e)
				}
			}
		}
	}
}

// Rule 4: marks are as they were, with what lies beside them and in their spare room, whatever is answered.
func TestNotChanged(t *testing.T) {
	l := []Mark{{least, most, true}, {30, 0, false}, {}, {}, {}, {most, least, false}, {-1, -101, true}}
	was := slices.Clone(l)
	for _, part := range [][]Mark{l[1:5], l[1:2], l[1:1], l[:3], l[3:], l, l[1:5:5]} {
		Run(part)
		for _, m := range part {
			Worst(m)
			Next(State{2, 2}, m)
		}
	}
	long := make([]Mark, room+1, room+5)
	Run(long)
	Run(long[:room])
	if !slices.Equal(l, was) || !slices.Equal(long[:room+5], make([]Mark, room+5)) {
		t.Error(l)
	}
}

// Rule 4: what is answered is new memory, its spare room too: it hangs neither on marks that are changed then, nor on another answer.
func TestNotShared(t *testing.T) {
	l := telling(2, 1, 1, 1, 3, 1)
	want := []int{2, 2, 2, 1, 3, 3}
	first, e := Run(l)
	if e != api.OK {
		t.Fatal(e)
	}
	second, _ := Run(l)
	part, _ := Run(l[:3])
	for i := range l {
		l[i] = Mark{-7, -700, true}
	}
	if !slices.Equal(first, want) || !slices.Equal(second, want) || !slices.Equal(part, want[:3]) {
		t.Error(first, second, part)
	}
	for i := range first[:cap(first)] {
		first[:cap(first)][i] = 9
	}
	if !slices.Equal(second, want) || !slices.Equal(part, want[:3]) {
		t.Error(second, part)
	}
	checkRun(t, telling(2, 1, 1, 1, 3, 1), want...)
}

// Rule 5: calls at the same time don't touch one another, though they share their marks; and nothing is kept from one to the next.
func TestAtOnce(t *testing.T) {
	l := someMarks(rand.New(rand.NewSource(4)), room)
	want, _ := slowRun(l)
	var joined sync.WaitGroup
	for range 8 {
		joined.Go(func() {
			for range 20 {
				if got, e := Run(l); !slices.Equal(got, want) || e != api.OK {
					t.Errorf("%v, %d", got, e)
				}
				Next(State{3, 2}, Mark{})
				Run([]Mark{{Bad: true}, {Past: -1}})
			}
		})
	}
	joined.Wait()
}

// The generic function itself, of other types: rules are tried in their order, none behind the first that holds; where none does, nothing is told.
func TestFirstOf(t *testing.T) {
	var tried []string
	rule := func(name string, from int) func(int) (string, bool) {
		return func(n int) (string, bool) {
			tried = append(tried, name)
			return name, n >= from
		}
	}
	for _, x := range []struct {
		n     int
		want  string
		tried []string
	}{
		{9, "great", []string{"great"}},
		{5, "middling", []string{"great", "middling"}},
		{1, "small", []string{"great", "middling", "small"}},
		{0, "", []string{"great", "middling", "small"}},
	} {
		tried = nil
		got := firstOf(x.n, rule("great", 9), rule("middling", 5), rule("small", 1))
		if got != x.want || !slices.Equal(tried, x.tried) {
			t.Errorf("%d: %q, %v", x.n, got, tried)
		}
	}
	if got := firstOf[int, State](5); got != (State{}) {
		t.Error(got)
	}
}
