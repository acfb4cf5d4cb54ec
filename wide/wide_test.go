package wide

import (
	"math"
	"math/big"
	"math/rand"
	"slices"
	"testing"

	"lombard/api"
)

const (
	least = math.MinInt64
	most  = math.MaxInt64
	full  = math.MaxUint64
)

var (
	lowest  = Int{Hi: least}
	highest = Int{Hi: most, Lo: full}
)

// edges are numbers at which something turns: the bounds, their halves and roots, the limits.
func edges() []int64 {
	var l []int64
	for _, n := range []int64{0, 5, api.Unit, api.MaxMoney, 1 << 31, 1 << 32, 3037000499, 1 << 62, most / 3, most, least} {
		for d := int64(-2); d <= 2; d++ {
			l = append(l, n+d, -n+d) // going round here only leads to other edges
		}
	}
	slices.Sort(l)
	return slices.Compact(l)
}

// wideEdges are Ints at which something turns: of both halves the edges.
func wideEdges() []Int {
	var l []Int
	halves := []int64{least, least + 1, -1 << 62, -3, -2, -1, 0, 1, 2, 3, 1<<62 - 1, 1 << 62, most - 1, most}
	for _, hi := range halves {
		for _, lo := range halves {
			l = append(l, Int{Hi: hi, Lo: uint64(lo)})
		}
	}
	return l
}

// someNumber is of any width.
func someNumber(r *rand.Rand) int64 {
	return int64(r.Uint64()) >> r.Intn(64)
}

// someInt is of any width, at most 128 bits.
func someInt(r *rand.Rand) Int {
	if r.Intn(2) == 0 {
		return Of(someNumber(r))
	}
	return Int{Hi: someNumber(r), Lo: r.Uint64()}
}

// bigOf is an Int word by word: Hi times 2^64, and Lo.
func bigOf(a Int) *big.Int {
	n := new(big.Int).Lsh(big.NewInt(a.Hi), 64)
	return n.Add(n, new(big.Int).SetUint64(a.Lo))
}

// fits says whether a number is from -2^127 to 2^127 - 1.
func fits(n *big.Int) bool {
	bound := new(big.Int).Lsh(big.NewInt(1), 127)
	return n.Cmp(new(big.Int).Neg(bound)) >= 0 && n.Cmp(bound) < 0
}

// checkInt holds an answer against the true number.
func checkInt(t *testing.T, what string, want *big.Int, n Int, e api.Errno) {
	t.Helper()
	if !fits(want) {
		if n != (Int{}) || e != api.ErrOver {
			t.Fatalf("%s: %v, %d; want 0, ErrOver (%v)", what, n, e, want)
		}
		return
	}
	if bigOf(n).Cmp(want) != 0 || e != api.OK {
		t.Fatalf("%s: %v, %d; want %v, OK", what, n, e, want)
	}
}

// slowDiv is P2.2 word by word, in numbers of any size: the number below, and of it and the next one the nearer.
func slowDiv(a, b *big.Int, way int) (*big.Int, api.Errno) {
	if way != 0 && way != 1 {
		return new(big.Int), api.ErrArg
	}
	if b.Sign() == 0 {
		return new(big.Int), api.ErrZero
	}
	exact := new(big.Rat).SetFrac(a, b)
	below := new(big.Int).Div(exact.Num(), exact.Denom()) // the divisor is above 0, so this is downwards
	n := below
	if way == 1 {
		above := new(big.Int).Add(below, big.NewInt(1))
		up := new(big.Rat).Sub(new(big.Rat).SetInt(above), exact)
		down := new(big.Rat).Sub(exact, new(big.Rat).SetInt(below))
		if c := up.Cmp(down); c < 0 || c == 0 && below.Bit(0) == 1 {
			n = above
		}
	}
	if !n.IsInt64() {
		return new(big.Int), api.ErrOver
	}
	return n, api.OK
}

// checkDiv holds both ways of dividing against numbers of any size, and P2.3's second clause against each other.
func checkDiv(t *testing.T, a Int, b int64) {
	t.Helper()
	for _, way := range []int{api.Floor, api.Near} {
		want, wantE := slowDiv(bigOf(a), big.NewInt(b), way)
		if n, e := Div(a, b, way); n != want.Int64() || e != wantE {
			t.Fatalf("Div of %v by %d, way %d: %d, %d; want %v, %d", a, b, way, n, e, want, wantE)
		}
	}
	below, e1 := Div(a, b, api.Floor)
	nearest, e2 := Div(a, b, api.Near)
	if e1 == api.OK && e2 == api.OK && nearest != below && nearest != below+1 {
		t.Fatalf("Div of %v by %d: %d downwards, but %d to the nearer one", a, b, below, nearest)
	}
}

// P2.1: numbers and products that the document's bounds name.
func TestReckonNamed(t *testing.T) {
	for i, x := range []struct{ got, want Int }{
		{Of(0), Int{}},
		{Of(5), Int{Lo: 5}},
		{Of(-1), Int{Hi: -1, Lo: full}},
		{Of(-5), Int{Hi: -1, Lo: full - 4}},
		{Of(most), Int{Lo: 1<<63 - 1}},
		{Of(least), Int{Hi: -1, Lo: 1 << 63}},
		{Mul(6, 7), Int{Lo: 42}},
		{Mul(-6, 7), Int{Hi: -1, Lo: full - 41}},
		{Mul(-6, -7), Int{Lo: 42}},
		{Mul(0, least), Int{}},
		{Mul(least, 0), Int{}},
		{Mul(least, 1), Of(least)},
		{Mul(1, most), Of(most)},
		{Mul(least, -1), Int{Lo: 1 << 63}},
		{Mul(-1, least), Int{Lo: 1 << 63}},
		{Mul(least, least), Int{Hi: 1 << 62}},
		{Mul(most, most), Int{Hi: 1<<62 - 1, Lo: 1}},
		{Mul(most, least), Int{Hi: -1 << 62, Lo: 1 << 63}},
		{Mul(least, most), Int{Hi: -1 << 62, Lo: 1 << 63}},
		{Mul(1<<32, 1<<32), Int{Hi: 1}},
		{Mul(-1<<32, 1<<32), Int{Hi: -1}},
	} {
		if x.got != x.want {
			t.Errorf("%d: %v, want %v", i, x.got, x.want)
		}
	}
}

// P2.1: sums and turned numbers within the bounds, at them, and just beyond.
func TestAddNegNamed(t *testing.T) {
	neg := func(a, _ Int) (Int, api.Errno) { return Neg(a) }
	for i, x := range []struct {
		do         func(a, b Int) (Int, api.Errno)
		a, b, want Int
		e          api.Errno
	}{
		{Add, Of(2), Of(3), Of(5), api.OK},
		{Add, Of(-2), Of(3), Of(1), api.OK},
		{Add, Of(2), Of(-3), Of(-1), api.OK},
		{Add, Int{Lo: full}, Of(1), Int{Hi: 1}, api.OK},
		{Add, Int{Hi: 1}, Of(-1), Int{Lo: full}, api.OK},
		{Add, highest, Of(0), highest, api.OK},
		{Add, highest, Of(-1), Int{Hi: most, Lo: full - 1}, api.OK},
		{Add, highest, Of(1), Int{}, api.ErrOver},
		{Add, Of(1), highest, Int{}, api.ErrOver},
		{Add, highest, highest, Int{}, api.ErrOver},
		{Add, Int{Hi: most, Lo: full - 1}, Of(1), highest, api.OK},
		{Add, Int{Hi: 1 << 62}, Int{Hi: 1 << 62}, Int{}, api.ErrOver},
		{Add, lowest, Of(0), lowest, api.OK},
		{Add, lowest, Of(1), Int{Hi: least, Lo: 1}, api.OK},
		{Add, lowest, Of(-1), Int{}, api.ErrOver},
		{Add, Of(-1), lowest, Int{}, api.ErrOver},
		{Add, lowest, lowest, Int{}, api.ErrOver}, // goes round to just 0
		{Add, Int{Hi: least, Lo: 1}, Of(-1), lowest, api.OK},
		{Add, Int{Hi: -1 << 62}, Int{Hi: -1 << 62}, lowest, api.OK},
		{Add, lowest, highest, Of(-1), api.OK},
		{neg, Of(0), Int{}, Of(0), api.OK},
		{neg, Of(5), Int{}, Of(-5), api.OK},
		{neg, Of(-5), Int{}, Of(5), api.OK},
		{neg, Of(least), Int{}, Int{Lo: 1 << 63}, api.OK},
		{neg, Int{Hi: 1}, Int{}, Int{Hi: -1}, api.OK},
		{neg, Int{Hi: -1, Lo: 1}, Int{}, Int{Lo: full}, api.OK},
		{neg, highest, Int{}, Int{Hi: least, Lo: 1}, api.OK},
		{neg, Int{Hi: least, Lo: 1}, Int{}, highest, api.OK},
		{neg, lowest, Int{}, Int{}, api.ErrOver},
	} {
		if n, e := x.do(x.a, x.b); n != x.want || e != x.e {
			t.Errorf("%d: %v, %d; want %v, %d", i, n, e, x.want, x.e)
		}
	}
}

// P2.1: the upper half counts with its sign, the lower one without.
func TestCompareNamed(t *testing.T) {
	rising := []Int{lowest, {Hi: least, Lo: 1}, {Hi: -2, Lo: full}, {Hi: -1}, Of(least), Of(-1), Of(0), Of(1), Of(most), {Lo: 1 << 63}, {Lo: full}, {Hi: 1}, {Hi: most}, highest}
	for i, a := range rising {
		for j, b := range rising {
			want := 0
			if i < j {
				want = -1
			}
			if i > j {
				want = 1
			}
			if n := Compare(a, b); n != want {
				t.Errorf("Compare of %v and %v: %d, want %d", a, b, n, want)
			}
		}
	}
}

// P2.1 against numbers of any size: at all pairs of edges, and at random ones of all widths.
func TestReckonBig(t *testing.T) {
	numbers, ints := edges(), wideEdges()
	for _, a := range numbers {
		checkInt(t, "Of", big.NewInt(a), Of(a), api.OK)
		for _, b := range numbers {
			checkInt(t, "Mul", new(big.Int).Mul(big.NewInt(a), big.NewInt(b)), Mul(a, b), api.OK)
		}
	}
	for _, a := range ints {
		for _, b := range ints {
			checkIntPair(t, a, b)
		}
	}
	r := rand.New(rand.NewSource(1))
	for range 100000 {
		a, b := someNumber(r), someNumber(r)
		checkInt(t, "Mul", new(big.Int).Mul(big.NewInt(a), big.NewInt(b)), Mul(a, b), api.OK)
		checkIntPair(t, someInt(r), someInt(r))
	}
}

// checkIntPair tries all calls of Ints.
func checkIntPair(t *testing.T, a, b Int) {
	t.Helper()
	x, y := bigOf(a), bigOf(b)
	n, e := Add(a, b)
	checkInt(t, "Add of "+x.String()+" and "+y.String(), new(big.Int).Add(x, y), n, e)
	n, e = Neg(a)
	checkInt(t, "Neg of "+x.String(), new(big.Int).Neg(x), n, e)
	if c := Compare(a, b); c != x.Cmp(y) {
		t.Fatalf("Compare of %v and %v: %d", x, y, c)
	}
}

// P2.2: quotients between two whole numbers on both sides of 0, by divisors on both sides of it.
func TestDivNamed(t *testing.T) {
	for i, x := range []struct {
		a           Int
		b           int64
		floor, near int64
	}{
		{Of(0), 1, 0, 0},
		{Of(0), -7, 0, 0},
		{Of(0), least, 0, 0},
		{Of(6), 3, 2, 2},
		{Of(-6), 3, -2, -2},
		{Of(6), -3, -2, -2},
		{Of(-6), -3, 2, 2},
		{Of(7), 3, 2, 2},
		{Of(8), 3, 2, 3},
		{Of(-7), 3, -3, -2},
		{Of(-8), 3, -3, -3},
		{Of(7), -3, -3, -2},
		{Of(-8), -3, 2, 3},
		{Of(1), 2, 0, 0},
		{Of(3), 2, 1, 2},
		{Of(5), 2, 2, 2},
		{Of(7), 2, 3, 4},
		{Of(-1), 2, -1, 0},
		{Of(-3), 2, -2, -2},
		{Of(-5), 2, -3, -2},
		{Of(-7), 2, -4, -4},
		{Of(1), -2, -1, 0},
		{Of(3), -2, -2, -2},
		{Of(-1), -2, 0, 0},
		{Of(-3), -2, 1, 2},
		{Of(most), 1, most, most},
		{Of(most), -1, -most, -most},
		{Of(least), 1, least, least},
		{Of(most), 2, 1<<62 - 1, 1 << 62},
		{Of(-most), 2, -1 << 62, -1 << 62},
		{Of(most), least, -1, -1},
		{Of(1), least, -1, 0},
		{Of(-1), least, 0, 0},
		{Of(least), least, 1, 1},
		{Of(1 << 62), least, -1, 0},                          // between -1 and 0
		{Of(-1 << 62), least, 0, 0},                          // between 0 and 1
		{Mul(1<<62, 3), least, -2, -2},                       // between -2 and -1
		{Mul(-1<<62, 3), least, 1, 2},                        // between 1 and 2
		{Int{Hi: -1, Lo: 1}, 2, least, least},                // 1/2 above -2^63
		{Int{Lo: full - 2}, 2, most - 1, most - 1},           // 1/2 below 2^63 - 1
		{Int{Hi: -1 << 62, Lo: 1 << 63}, most, least, least}, // -2^63 times 2^63 - 1
		{Int{Hi: -1 << 62, Lo: 1 << 63}, least, most, most},
	} {
		if n, e := Div(x.a, x.b, api.Floor); n != x.floor || e != api.OK {
			t.Errorf("%d downwards: %d, %d; want %d, OK", i, n, e, x.floor)
		}
		if n, e := Div(x.a, x.b, api.Near); n != x.near || e != api.OK {
			t.Errorf("%d to the nearer one: %d, %d; want %d, OK", i, n, e, x.near)
		}
	}
}

// P2.2: what no 64 bits hold is refused, by its rounded number alone.
func TestDivOver(t *testing.T) {
	for i, x := range []struct {
		a    Int
		b    int64
		way  int
		want int64
		e    api.Errno
	}{
		{Of(least), -1, api.Floor, 0, api.ErrOver},
		{Of(least), -1, api.Near, 0, api.ErrOver},
		{Int{Lo: 1 << 63}, 1, api.Floor, 0, api.ErrOver},
		{Int{Lo: 1 << 63}, -1, api.Floor, least, api.OK},
		{Int{Lo: 1<<63 + 1}, -1, api.Floor, 0, api.ErrOver},
		{Int{Lo: full}, 2, api.Floor, most, api.OK}, // 1/2 above 2^63 - 1
		{Int{Lo: full}, 2, api.Near, 0, api.ErrOver},
		{Int{Hi: -1, Lo: full - 1<<63}, 1, api.Near, 0, api.ErrOver}, // -2^63 - 1
		{Int{Hi: -2, Lo: full}, 2, api.Floor, 0, api.ErrOver},        // 1/2 below -2^63
		{Int{Hi: -2, Lo: full}, 2, api.Near, least, api.OK},
		{Int{Lo: full}, 1, api.Floor, 0, api.ErrOver},
		{Int{Lo: full}, -1, api.Floor, 0, api.ErrOver},
		{Int{Hi: 1, Lo: full}, -2, api.Floor, 0, api.ErrOver}, // 1/2 above -2^64
		{Int{Hi: 1, Lo: full}, -2, api.Near, 0, api.ErrOver},
		{Int{Hi: 1}, 1, api.Floor, 0, api.ErrOver},
		{Int{Hi: 1}, 1, api.Near, 0, api.ErrOver},
		{Int{Hi: -1}, 1, api.Floor, 0, api.ErrOver},
		{Int{Hi: 5}, 5, api.Floor, 0, api.ErrOver},
		{Int{Hi: -5}, 5, api.Near, 0, api.ErrOver},
		{highest, 1, api.Floor, 0, api.ErrOver},
		{highest, -1, api.Near, 0, api.ErrOver},
		{highest, most, api.Near, 0, api.ErrOver},
		{highest, least, api.Floor, 0, api.ErrOver},
		{lowest, 1, api.Floor, 0, api.ErrOver},
		{lowest, -1, api.Floor, 0, api.ErrOver},
		{lowest, -1, api.Near, 0, api.ErrOver},
		{lowest, most, api.Floor, 0, api.ErrOver},
		{lowest, least, api.Floor, 0, api.ErrOver}, // 2^64
		{lowest, least, api.Near, 0, api.ErrOver},
	} {
		if n, e := Div(x.a, x.b, x.way); n != x.want || e != x.e {
			t.Errorf("%d: %d, %d; want %d, %d", i, n, e, x.want, x.e)
		}
	}
}

// P2.2: a wrong way is told ahead of a divisor of 0, and that ahead of what is too great.
func TestDivRefused(t *testing.T) {
	for _, way := range []int{-1, 2, 3, 255, 256, -256, math.MaxInt32, math.MinInt32, math.MaxInt64, math.MinInt64} {
		for _, b := range []int64{0, 1, -1, 2, most, least} {
			for _, a := range []Int{Of(0), Of(5), lowest, highest} {
				if n, e := Div(a, b, way); n != 0 || e != api.ErrArg {
					t.Errorf("Div of %v by %d, way %d: %d, %d; want 0, ErrArg", a, b, way, n, e)
				}
			}
			if n, e := MulDiv(least, least, b, way); n != 0 || e != api.ErrArg {
				t.Errorf("MulDiv by %d, way %d: %d, %d; want 0, ErrArg", b, way, n, e)
			}
		}
	}
	for _, way := range []int{api.Floor, api.Near} {
		for _, a := range []Int{Of(0), Of(5), Of(-5), lowest, highest} {
			if n, e := Div(a, 0, way); n != 0 || e != api.ErrZero {
				t.Errorf("Div of %v by 0, way %d: %d, %d; want 0, ErrZero", a, way, n, e)
			}
		}
		if n, e := MulDiv(least, least, 0, way); n != 0 || e != api.ErrZero {
			t.Errorf("MulDiv by 0, way %d: %d, %d; want 0, ErrZero", way, n, e)
		}
	}
}

// P2.2 against numbers of any size: at edges by edges, and at random ones of all widths.
func TestDivBig(t *testing.T) {
	for _, a := range wideEdges() {
		for _, b := range edges() {
			checkDiv(t, a, b)
		}
	}
	r := rand.New(rand.NewSource(2))
	for range 100000 {
		checkDiv(t, someInt(r), someNumber(r))
	}
}

// P2.2 where the quotient is near the bounds, or just between two whole numbers: dividends around products.
func TestDivNearProducts(t *testing.T) {
	r := rand.New(rand.NewSource(3))
	for i := range 20000 {
		n, b := someNumber(r), someNumber(r)
		if i%2 == 0 {
			n = []int64{least, least + 1, most - 1, most}[r.Intn(4)]
		}
		if i%3 == 0 {
			b = []int64{least, least + 2, -2, 2, 4, most - 1}[r.Intn(6)]
		}
		for _, far := range []int64{0, b / 2, b/2 + 1, b/2 - 1, -(b / 2), b, -b, b - 1, 1 - b} {
			for d := int64(-1); d <= 1; d++ {
				a, e1 := Add(Mul(n, b), Of(far))
				a, e2 := Add(a, Of(d))
				if e1 != api.OK || e2 != api.OK {
					t.Fatal(n, b, far, d)
				}
				checkDiv(t, a, b)
			}
		}
	}
}

// P2.2: small numbers, all of them.
func TestDivSmall(t *testing.T) {
	for a := int64(-60); a <= 60; a++ {
		for b := int64(-20); b <= 20; b++ {
			checkDiv(t, Of(a), b)
		}
	}
}

// P2.2 MulDiv: the document's examples, and Div of Mul at edges and at random ones.
func TestMulDiv(t *testing.T) {
	for i, x := range []struct {
		a, b, c int64
		way     int
		want    int64
	}{
		{7, 1, 2, api.Near, 4},
		{5, 1, 2, api.Near, 2},
		{-5, 1, 2, api.Near, -2},
		{-5, 1, 2, api.Floor, -3},
		{api.MaxMoney, api.MaxRate, api.Unit, api.Near, 100000000000000},
		{most, least, most, api.Floor, least},
		{most, most, least, api.Floor, -most},
		{most, most, least, api.Near, -most + 1},
	} {
		if n, e := MulDiv(x.a, x.b, x.c, x.way); n != x.want || e != api.OK {
			t.Errorf("%d: %d, %d; want %d, OK", i, n, e, x.want)
		}
	}
	r := rand.New(rand.NewSource(4))
	l := edges()
	for i := range 100000 {
		a, b, c := someNumber(r), someNumber(r), someNumber(r)
		if i%2 == 0 {
			a, b, c = l[r.Intn(len(l))], l[r.Intn(len(l))], l[r.Intn(len(l))]
		}
		way := r.Intn(4) - 1
		product := new(big.Int).Mul(big.NewInt(a), big.NewInt(b))
		want, wantE := slowDiv(product, big.NewInt(c), way)
		if n, e := MulDiv(a, b, c, way); n != want.Int64() || e != wantE {
			t.Fatalf("MulDiv of %d, %d, %d, way %d: %d, %d; want %v, %d", a, b, c, way, n, e, want, wantE)
		}
	}
}

// P2.3: what is multiplied and divided by one number is what it was.
func TestMulDivBack(t *testing.T) {
	l := edges()
	for _, a := range l {
		for _, c := range l {
			for _, way := range []int{api.Floor, api.Near} {
				n, e := MulDiv(a, c, c, way)
				if c == 0 && (n != 0 || e != api.ErrZero) || c != 0 && (n != a || e != api.OK) {
					t.Fatalf("MulDiv of %d, %d, %d, way %d: %d, %d", a, c, c, way, n, e)
				}
			}
		}
	}
}

// P2.3: to the nearer one is downwards, or one more, wherever both are told; where only one is, the other one is just beyond the bounds.
func TestNearIsFloorOrOneMore(t *testing.T) {
	r := rand.New(rand.NewSource(5))
	for range 100000 {
		a, b := someInt(r), someNumber(r)|1
		below, e1 := Div(a, b, api.Floor)
		nearest, e2 := Div(a, b, api.Near)
		switch {
		case e1 == api.OK && e2 == api.OK:
			if nearest != below && nearest != below+1 {
				t.Fatalf("%v by %d: %d, %d", a, b, below, nearest)
			}
		case e1 == api.OK && below != most, e2 == api.OK && nearest != least:
			t.Fatalf("%v by %d: %d, %d and %d, %d", a, b, below, e1, nearest, e2)
		}
	}
}

// P2.3: a quotient of more is no less, by a divisor above 0; by one below 0, no more.
func TestDivRises(t *testing.T) {
	r := rand.New(rand.NewSource(6))
	for range 100000 {
		b := someNumber(r) | 1
		few, many := someInt(r), someInt(r)
		if r.Intn(2) == 0 {
			many, _ = Add(few, Of(int64(r.Intn(5)))) // close by; 0 where that is beyond the bounds
		}
		if Compare(few, many) > 0 {
			few, many = many, few
		}
		for _, way := range []int{api.Floor, api.Near} {
			n, e1 := Div(few, b, way)
			m, e2 := Div(many, b, way)
			if b < 0 {
				n, m = m, n
			}
			if e1 == api.OK && e2 == api.OK && n > m {
				t.Fatalf("%v and %v by %d, way %d: %d and %d", few, many, b, way, n, m)
			}
		}
	}
}

// P1: every call ends and none panics, at all edges and ways.
func TestTotal(t *testing.T) {
	numbers := append(edges(), 0)
	for _, a := range wideEdges() {
		Neg(a)
		Compare(a, lowest)
		for _, b := range numbers {
			for _, way := range []int{math.MinInt, -1, 0, 1, 2, math.MaxInt} {
				Div(a, b, way)
				MulDiv(a.Hi, int64(a.Lo), b, way)
			}
		}
	}
}
