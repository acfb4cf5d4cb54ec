package stage

import "testing"

// P14.1: by hand, each edge of each part, alone and with the others.
func TestWorstNamed(t *testing.T) {
	for _, x := range []struct {
		m    Mark
		want int
	}{
		{Mark{}, 1},
		{Mark{Past: 1}, 1},
		{Mark{Past: 29}, 1},
		{Mark{Past: 30}, 2},
		{Mark{Past: 31}, 2},
		{Mark{Past: 89}, 2},
		{Mark{Past: 90}, 3},
		{Mark{Past: 91}, 3},
		{Mark{Past: 10000}, 3},
		{Mark{Down: -100}, 1},
		{Mark{Down: -3}, 1},
		{Mark{Down: 2}, 1},
		{Mark{Down: 3}, 2},
		{Mark{Down: 4}, 2},
		{Mark{Down: 90}, 2},
		{Mark{Down: 100}, 2},
		{Mark{Bad: true}, 3},
		{Mark{29, 2, false}, 1},
		{Mark{29, 3, false}, 2},
		{Mark{30, 2, false}, 2},
		{Mark{30, -100, false}, 2},
		{Mark{89, 100, false}, 2},
		{Mark{90, -100, false}, 3},
		{Mark{90, 100, false}, 3},
		{Mark{29, 2, true}, 3},
		{Mark{30, 3, true}, 3},
		{Mark{0, -100, true}, 3},
		{Mark{10000, 100, true}, 3},
	} {
		if got := Worst(x.m); got != x.want {
			t.Errorf("%+v: %d; wanted %d", x.m, got, x.want)
		}
	}
}

// P14.1, P1: of marks that may not be, too.
func TestWorstOfWrong(t *testing.T) {
	for _, x := range []struct {
		m    Mark
		want int
	}{
		{Mark{Past: -1}, 1},
		{Mark{Past: -90}, 1},
		{Mark{Past: least}, 1},
		{Mark{Past: 10001}, 3},
		{Mark{Past: most}, 3},
		{Mark{Past: 1 << 32}, 3},
		{Mark{Down: -101}, 1},
		{Mark{Down: least}, 1},
		{Mark{Down: 101}, 2},
		{Mark{Down: most}, 2},
		{Mark{Down: 1 << 32}, 2},
		{Mark{least, least, false}, 1},
		{Mark{least, most, false}, 2},
		{Mark{most, least, false}, 3},
		{Mark{most, most, false}, 3},
		{Mark{least, least, true}, 3},
		{Mark{-1, -101, true}, 3},
		{Mark{-1, 3, false}, 2},
		{Mark{30, -101, false}, 2},
	} {
		if got := Worst(x.m); got != x.want {
			t.Errorf("%+v: %d; wanted %d", x.m, got, x.want)
		}
	}
	for _, m := range wrongMarks() {
		if got := Worst(m); got != slowWorst(m) {
			t.Errorf("%+v: %d; wanted %d", m, got, slowWorst(m))
		}
	}
}

// P14.1: all marks that may be, and those about them, against the chapter's words.
func TestWorstAll(t *testing.T) {
	for past := -3; past <= 10003; past++ {
		for down := -103; down <= 103; down++ {
			m := Mark{Past: past, Down: down}
			if got := Worst(m); got != slowWorst(m) {
				t.Fatalf("%+v: %d; wanted %d", m, got, slowWorst(m))
			}
			m.Bad = true
			if got := Worst(m); got != 3 {
				t.Fatalf("%+v: %d; wanted 3", m, got)
			}
		}
	}
}

// The tests' own marks tell what they are taken for.
func TestMarksOfStages(t *testing.T) {
	for n := 1; n <= 3; n++ {
		for _, m := range of(n) {
			if slowWorst(m) != n || !slowMay(m) {
				t.Errorf("the test is wrong: %+v isn't of the stage %d", m, n)
			}
		}
	}
}
