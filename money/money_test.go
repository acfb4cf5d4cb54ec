package money

import (
	"math"
	"math/big"
	"math/rand"
	"slices"
	"testing"

	"lombard/api"
)

const (
	least = math.MinInt64
	most  = math.MaxInt64
)

// edges are amounts at which something turns: the bounds, the limits, the halves and roots of the bounds.
func edges() []int64 {
	var l []int64
	for _, n := range []int64{0, api.MaxMoney, 1 << 31, 1 << 32, 3037000499, 1 << 62, most / 3, most, least / 3, least} {
		for d := int64(-2); d <= 2; d++ {
			l = append(l, n+d, -n+d) // going round here only leads to other edges
		}
	}
	slices.Sort(l)
	return slices.Compact(l)
}

// check holds an answer against the true number.
func check(t *testing.T, what string, want *big.Int, n int64, e api.Errno) {
	t.Helper()
	if !want.IsInt64() {
		if n != 0 || e != api.ErrOver {
			t.Errorf("%s: %d, %d; want 0, ErrOver (%v)", what, n, e, want)
		}
		return
	}
	if n != want.Int64() || e != api.OK {
		t.Errorf("%s: %d, %d; want %v, OK", what, n, e, want)
	}
}

// checkPair tries all calls of two amounts.
func checkPair(t *testing.T, a, b int64) {
	t.Helper()
	x, y := big.NewInt(a), big.NewInt(b)
	n, e := Add(a, b)
	check(t, "Add of "+x.String()+" and "+y.String(), new(big.Int).Add(x, y), n, e)
	n, e = Sub(a, b)
	check(t, "Sub of "+x.String()+" and "+y.String(), new(big.Int).Sub(x, y), n, e)
	n, e = Mul(a, b)
	check(t, "Mul of "+x.String()+" and "+y.String(), new(big.Int).Mul(x, y), n, e)
}

// Words: the limits, ways of rounding and errors are the document's.
func TestWords(t *testing.T) {
	for i, e := range []api.Errno{api.OK, api.ErrNil, api.ErrArg, api.ErrOver, api.ErrZero, api.ErrDate, api.ErrForm, api.ErrSum, api.ErrNone, api.ErrTwice, api.ErrFull, api.ErrClosed, api.ErrState, api.ErrBracket, api.ErrShort} {
		if int(e) != i {
			t.Errorf("error %d is %d", i, e)
		}
	}
	got := []int64{api.Unit, api.MinRate, api.MaxRate, api.MaxMoney, api.MaxPeriods, api.MaxLoans, api.MaxEvents, api.FirstDay, api.LastDay, api.BlockSize, api.MaxBlocks, api.Floor, api.Near}
	want := []int64{1e12, -99e10, 1e13, 1e13, 600, 64, 4096, 1, 3652059, 64, 4096, 0, 1}
	if !slices.Equal(got, want) {
		t.Errorf("limits %v, want %v", got, want)
	}
}

// P1.1: Add, Sub, Mul and Neg at ordinary amounts and where the answer is just within the bounds, or just beyond.
func TestReckonNamed(t *testing.T) {
	type call func(a, b int64) (int64, api.Errno)
	neg := func(a, _ int64) (int64, api.Errno) { return Neg(a) }
	for i, x := range []struct {
		do         call
		a, b, want int64
		e          api.Errno
	}{
		{Add, 2, 3, 5, api.OK},
		{Add, -2, 3, 1, api.OK},
		{Add, most - 1, 1, most, api.OK},
		{Add, most, 1, 0, api.ErrOver},
		{Add, most, most, 0, api.ErrOver},
		{Add, least + 1, -1, least, api.OK},
		{Add, least, -1, 0, api.ErrOver},
		{Add, least, least, 0, api.ErrOver},
		{Add, least, most, -1, api.OK},
		{Sub, 2, 3, -1, api.OK},
		{Sub, -1, least, most, api.OK},
		{Sub, 0, least, 0, api.ErrOver},
		{Sub, least, least, 0, api.OK},
		{Sub, least, 1, 0, api.ErrOver},
		{Sub, most, -1, 0, api.ErrOver},
		{Sub, -2, most, 0, api.ErrOver},
		{Sub, -1, most, least, api.OK},
		{Mul, 6, 7, 42, api.OK},
		{Mul, -6, 7, -42, api.OK},
		{Mul, 0, least, 0, api.OK},
		{Mul, least, 0, 0, api.OK},
		{Mul, least, 1, least, api.OK},
		{Mul, 1, least, least, api.OK},
		{Mul, least, -1, 0, api.ErrOver},
		{Mul, -1, least, 0, api.ErrOver},
		{Mul, most, -1, -most, api.OK},
		{Mul, 1 << 32, 1 << 31, 0, api.ErrOver},
		{Mul, -1 << 32, 1 << 31, least, api.OK},
		{Mul, 1 << 32, 1 << 32, 0, api.ErrOver}, // goes round to just 0
		{neg, 5, 0, -5, api.OK},
		{neg, 0, 0, 0, api.OK},
		{neg, most, 0, -most, api.OK},
		{neg, least + 1, 0, most, api.OK},
		{neg, least, 0, 0, api.ErrOver},
	} {
		if n, e := x.do(x.a, x.b); n != x.want || e != x.e {
			t.Errorf("%d: %d, %d; want %d, %d", i, n, e, x.want, x.e)
		}
	}
}

// P1.1 against numbers of any size: at all pairs of edges, and at random ones of all widths.
func TestReckonBig(t *testing.T) {
	l := edges()
	for _, a := range l {
		n, e := Neg(a)
		check(t, "Neg of "+big.NewInt(a).String(), new(big.Int).Neg(big.NewInt(a)), n, e)
		for _, b := range l {
			checkPair(t, a, b)
		}
	}
	r := rand.New(rand.NewSource(1))
	for range 200000 {
		checkPair(t, int64(r.Uint64())>>r.Intn(64), int64(r.Uint64())>>r.Intn(64))
	}
}

// P1.1 of the generic functions: at every pair of the narrowest width, and so at every way of going round.
func TestReckonNarrow(t *testing.T) {
	narrow := func(n int8, turns int) (int64, bool) {
		m, e := exact(n, turns)
		return int64(m), e == api.OK
	}
	for a := math.MinInt8; a <= math.MaxInt8; a++ {
		for b := math.MinInt8; b <= math.MaxInt8; b++ {
			x, y := int8(a), int8(b)
			sum, sumTurns := plus(x, y)
			less, lessTurns := minus(x, y)
			product, productTurns := times(x, y)
			for i, c := range []struct {
				n     int8
				turns int
				want  int
			}{{sum, sumTurns, a + b}, {less, lessTurns, a - b}, {product, productTurns, a * b}} {
				n, ok := narrow(c.n, c.turns)
				within := math.MinInt8 <= c.want && c.want <= math.MaxInt8
				if ok != within || within && n != int64(c.want) || !within && n != 0 {
					t.Fatalf("%d of %d and %d: %d, %v; want %d", i, a, b, n, ok, c.want)
				}
				if i < 2 && int(c.n)+256*c.turns != c.want {
					t.Fatalf("%d of %d and %d: %d went round %d times; want %d", i, a, b, c.n, c.turns, c.want)
				}
			}
		}
	}
}

// P1.1 Sum: the whole counts, not the sums on the way; nil is empty.
func TestSum(t *testing.T) {
	for i, x := range []struct {
		l    []int64
		want int64
		e    api.Errno
	}{
		{nil, 0, api.OK},
		{[]int64{}, 0, api.OK},
		{[]int64{7}, 7, api.OK},
		{[]int64{1, -2, 3}, 2, api.OK},
		{[]int64{most}, most, api.OK},
		{[]int64{least}, least, api.OK},
		{[]int64{most, 1, -1}, most, api.OK},
		{[]int64{least, -1, 1}, least, api.OK},
		{[]int64{most, 1}, 0, api.ErrOver},
		{[]int64{least, -1}, 0, api.ErrOver},
		{[]int64{most, most, least, least}, -2, api.OK},
		{[]int64{most, most, most, least, least, least}, -3, api.OK},
		{[]int64{least, least, most, 1}, least, api.OK},
		{[]int64{least, least}, 0, api.ErrOver}, // goes round to just 0
		{[]int64{least, least, least, least}, 0, api.ErrOver},
		{[]int64{most, most, 2}, 0, api.ErrOver}, // so does this
	} {
		if n, e := Sum(x.l); n != x.want || e != x.e {
			t.Errorf("%d: %d, %d; want %d, %d", i, n, e, x.want, x.e)
		}
	}
}

// P1.1 Sum against numbers of any size; what is handed in stays as it was.
func TestSumBig(t *testing.T) {
	r := rand.New(rand.NewSource(2))
	some := edges()
	for range 20000 {
		l := make([]int64, r.Intn(12))
		want := new(big.Int)
		for i := range l {
			l[i] = some[r.Intn(len(some))]
			if r.Intn(2) == 0 {
				l[i] = int64(r.Uint64()) >> r.Intn(64)
			}
			want.Add(want, big.NewInt(l[i]))
		}
		was := slices.Clone(l)
		n, e := Sum(l)
		check(t, "Sum", want, n, e)
		if !slices.Equal(l, was) {
			t.Fatalf("Sum made %v of %v", l, was)
		}
	}
	long := make([]int64, 1<<20)
	for i := range long {
		long[i] = most
	}
	if n, e := Sum(long); n != 0 || e != api.ErrOver {
		t.Errorf("a long list: %d, %d", n, e)
	}
	for i := len(long) / 2; i < len(long); i++ {
		long[i] = -most
	}
	if n, e := Sum(long); n != 0 || e != api.OK {
		t.Errorf("a long list that comes to nothing: %d, %d", n, e)
	}
}

// P1.1 May: both limits, and what is just beyond.
func TestMay(t *testing.T) {
	for _, n := range []int64{0, 1, -1, 9999999999999, 10000000000000, -9999999999999, -10000000000000} {
		if !May(n) {
			t.Errorf("%d may not be", n)
		}
	}
	for _, n := range []int64{10000000000001, -10000000000001, most, least} {
		if May(n) {
			t.Errorf("%d may be", n)
		}
	}
}

// P1.2: parts as the document names them.
func TestSplitNamed(t *testing.T) {
	for i, x := range []struct {
		n             int64
		weights, want []int64
	}{
		{10, []int64{1, 1, 1}, []int64{4, 3, 3}},
		{11, []int64{1, 1, 1}, []int64{4, 4, 3}},
		{-10, []int64{1, 1, 1}, []int64{-4, -3, -3}},
		{-11, []int64{1, 1, 1}, []int64{-4, -4, -3}},
		{0, []int64{3, 0, 5}, []int64{0, 0, 0}},
		{1, []int64{0, 0, 9, 0, 9}, []int64{0, 0, 1, 0, 0}},
		{-1, []int64{0, 0, 9, 0, 9}, []int64{0, 0, -1, 0, 0}},
		{10, []int64{0, 1, 2}, []int64{0, 4, 6}},
		{2, []int64{0, 1, 1, 1}, []int64{0, 1, 1, 0}},
		{100, []int64{1, 2, 3, 4}, []int64{10, 20, 30, 40}},
		{99, []int64{1, 2, 3, 4}, []int64{10, 20, 30, 39}},
		{7, []int64{3}, []int64{7}},
		{api.MaxMoney, []int64{api.MaxMoney}, []int64{api.MaxMoney}},
		{-api.MaxMoney, []int64{1}, []int64{-api.MaxMoney}},
		{api.MaxMoney, []int64{api.MaxMoney, api.MaxMoney, api.MaxMoney}, []int64{3333333333334, 3333333333333, 3333333333333}},
		{-api.MaxMoney, []int64{1, api.MaxMoney}, []int64{-1, -9999999999999}},
		{api.MaxMoney, []int64{api.MaxMoney, 1}, []int64{10000000000000, 0}},
	} {
		if l, e := Split(x.n, x.weights); !slices.Equal(l, x.want) || e != api.OK {
			t.Errorf("%d: %v, %d; want %v, OK", i, l, e, x.want)
		}
	}
}

// P1.2: what isn't to be split is refused, beside a list of nothing.
func TestSplitRefused(t *testing.T) {
	ones := func(n int) []int64 { return slices.Repeat([]int64{1}, n) }
	for i, x := range []struct {
		n       int64
		weights []int64
	}{
		{1, nil},
		{1, []int64{}},
		{1, ones(api.MaxPeriods + 1)},
		{1, ones(1 << 16)},
		{1, []int64{0}},
		{1, make([]int64, api.MaxPeriods)},
		{0, []int64{0, 0}},
		{1, []int64{-1}},
		{1, []int64{-1, 2}},
		{1, []int64{2, -1}},
		{1, []int64{-1, 1}}, // together nothing
		{1, []int64{least}},
		{1, []int64{api.MaxMoney + 1}},
		{1, []int64{1, most}},
		{1, []int64{most, most, 3}},
		{api.MaxMoney + 1, []int64{1}},
		{-api.MaxMoney - 1, []int64{1}},
		{most, []int64{1}},
		{least, []int64{1}},
		{least, nil},
	} {
		if l, e := Split(x.n, x.weights); len(l) != 0 || e != api.ErrArg {
			t.Errorf("%d: %v, %d; want none, ErrArg", i, l, e)
		}
	}
}

// slowSplit is P1.2 word by word, in numbers of any size.
func slowSplit(n int64, weights []int64) []int64 {
	all := new(big.Int)
	for _, w := range weights {
		all.Add(all, big.NewInt(w))
	}
	parts := make([]int64, len(weights))
	left := n
	for i, w := range weights {
		p := new(big.Int).Mul(big.NewInt(n), big.NewInt(w))
		parts[i] = p.Quo(p, all).Int64()
		left -= parts[i]
	}
	one := int64(1)
	if n < 0 {
		one = -1
	}
	for left != 0 {
		for i, w := range weights {
			if w != 0 && left != 0 {
				parts[i] += one
				left -= one
			}
		}
	}
	return parts
}

// checkParts is P1.3.
func checkParts(t *testing.T, n int64, weights, parts []int64) {
	t.Helper()
	var all int64
	lows, highs := map[int64]int64{}, map[int64]int64{}
	for i, p := range parts {
		w := weights[i]
		all += p
		if w == 0 && p != 0 {
			t.Fatalf("%d by %v: a weight of 0 got %d", n, weights, p)
		}
		if _, ok := lows[w]; !ok {
			lows[w], highs[w] = p, p
		}
		lows[w], highs[w] = min(lows[w], p), max(highs[w], p)
		if highs[w]-lows[w] > 1 {
			t.Fatalf("%d by %v: like weights of %d got %d and %d", n, weights, w, lows[w], highs[w])
		}
	}
	if all != n {
		t.Fatalf("%d by %v: together %d", n, weights, all)
	}
}

// someWeights are of many lengths and sizes, many of them alike, some of them 0; at least one isn't.
func someWeights(r *rand.Rand) []int64 {
	lengths := []int{1, 2, 3, 1 + r.Intn(20), api.MaxPeriods}
	tops := []int64{1, 2, 10, 1 << 20, api.MaxMoney}
	weights := make([]int64, lengths[r.Intn(len(lengths))])
	top := tops[r.Intn(len(tops))]
	for i := range weights {
		switch r.Intn(4) {
		case 0:
			weights[i] = 0
		case 1:
			weights[i] = top
		default:
			weights[i] = r.Int63n(top + 1)
		}
	}
	weights[r.Intn(len(weights))] = 1 + r.Int63n(top)
	return weights
}

// P1.2 and P1.3 at many amounts and weights; what is handed in stays as it was, and the answer is new memory.
func TestSplitBig(t *testing.T) {
	r := rand.New(rand.NewSource(3))
	for range 5000 {
		weights := someWeights(r)
		was := slices.Clone(weights)
		for _, n := range []int64{0, 1, -1, r.Int63n(2000) - 1000, r.Int63n(2*api.MaxMoney+1) - api.MaxMoney, api.MaxMoney, -api.MaxMoney} {
			parts, e := Split(n, weights)
			if e != api.OK || !slices.Equal(parts, slowSplit(n, weights)) {
				t.Fatalf("%d by %v: %v, %d", n, weights, parts, e)
			}
			checkParts(t, n, weights, parts)
			whole := parts[:cap(parts)]
			for i := range whole {
				whole[i] = -7
			}
			if !slices.Equal(weights, was) {
				t.Fatalf("Split made %v of %v, or its answer shares memory with it", weights, was)
			}
		}
	}
}

// P1.3 where most is left over: all weights alike, of every number of them.
func TestSplitAlike(t *testing.T) {
	for k := 1; k <= api.MaxPeriods; k++ {
		for _, w := range []int64{1, api.MaxMoney} {
			weights := slices.Repeat([]int64{w}, k)
			for _, n := range []int64{int64(k) - 1, 1 - int64(k), 2*int64(k) - 1, api.MaxMoney, -api.MaxMoney} {
				parts, e := Split(n, weights)
				if e != api.OK || len(parts) != k {
					t.Fatalf("%d by %d times %d: %v, %d", n, k, w, parts, e)
				}
				checkParts(t, n, weights, parts)
			}
		}
	}
}

// The spare room behind what is handed in is left alone, too.
func TestSpareRoom(t *testing.T) {
	room := []int64{1, 2, 3, 99, 99}
	if l, e := Split(7, room[:3]); e != api.OK || len(l) != 3 {
		t.Fatal(l, e)
	}
	if n, e := Sum(room[:3]); n != 6 || e != api.OK {
		t.Fatal(n, e)
	}
	if !slices.Equal(room, []int64{1, 2, 3, 99, 99}) {
		t.Errorf("room is %v", room)
	}
}

// P1: every call ends and none panics, at pairs and lists of edges.
func TestTotal(t *testing.T) {
	l := edges()
	for _, a := range l {
		May(a)
		Neg(a)
		Split(a, nil)
		Split(a, l)
		for _, b := range l {
			Split(a, []int64{b})
			Split(a, []int64{b, a})
			Split(b, []int64{a, 0, b})
			Sum([]int64{a, b})
		}
	}
}
