package batch

import (
	"encoding/binary"
	"math/rand"
	"slices"
	"testing"

	"lombard/api"
	"lombard/chart"
)

// P18.2: each beginning of a batch's bytes is too short, whatever its first bytes are if there are fewer than 15.
func TestGetShort(t *testing.T) {
	for _, b := range someBatches() {
		bytes := checkPut(t, b, api.OK)
		for n := range bytes {
			checkGet(t, bytes[:n], api.ErrShort)
			if n < 15 {
				checkGet(t, slices.Repeat([]byte{0}, n), api.ErrShort)
				checkGet(t, slices.Repeat([]byte{255}, n), api.ErrShort)
			}
		}
		checkGet(t, bytes, api.OK)
	}
	checkGet(t, nil, api.ErrShort)
	checkGet(t, []byte{}, api.ErrShort)
	for n := range 15 {
		checkGet(t, []byte("LB\x01\x00\x00\x00\x01\x00\x00\x00\x00\xaa\xd0\x81\x07")[:n], api.ErrShort)
	}
	checkGet(t, []byte("LB\x01\x00\x00\x00\x01\x00\x00\x00\x00\xaa\xd0\x81\x07"), api.OK)
	checkGet(t, []byte("LB\x01\x00\x00\x00\x01\x00\x00\x00\x00\xaa\xd0\x81\x07\x00"), api.ErrForm)
}

// P18.2: each other first byte and second byte, though the sum be right, ahead of how many bytes there are from 15 on.
func TestGetFirst(t *testing.T) {
	for _, b := range someBatches() {
		body := slowBody(b)
		for x := range 256 {
			for at, right := range []byte{76, 66} {
				if byte(x) == right {
					continue
				}
				other := slices.Clone(body)
				other[at] = byte(x)
				other = summed(other)
				checkGet(t, other, api.ErrForm)
				checkGet(t, append(other, 0), api.ErrForm)
				checkGet(t, other[:15], api.ErrForm)
				checkGet(t, other[:14], api.ErrShort)
			}
		}
		body[0], body[1] = body[1], body[0]
		checkGet(t, summed(body), api.ErrForm)
	}
	for n := 15; n < 100; n++ {
		checkGet(t, make([]byte, n), api.ErrForm)
	}
}

// P18.2: fewer and more bytes than the number of lines asks, the sum right for as many as there are.
func TestGetSize(t *testing.T) {
	for _, b := range someBatches() {
		body := slowBody(b)
		for _, less := range []int{1, 2, 8, 9, 10, 18} {
			if len(body)-less >= 11 {
				checkGet(t, summed(body[:len(body)-less]), api.ErrShort)
			}
		}
		for _, more := range []int{1, 2, 8, 9, 10, 18, 1000} {
			checkGet(t, summed(append(slices.Clone(body), make([]byte, more)...)), api.ErrForm)
			checkGet(t, append(summed(body), make([]byte, more)...), api.ErrForm)
			checkGet(t, append(make([]byte, more), summed(body)...), api.ErrForm)
		}
		checkGet(t, append(summed(body), summed(body)...), api.ErrForm)
	}
}

func slowError(b []byte) api.Errno {
	_, e := slowGet(b)
	return e
}

// P18.2: each number of lines that bytes may tell, with as many bytes as it asks, by one and by nine fewer and more; of noughts a line's account is none.
func TestGetCount(t *testing.T) {
	for n := range 256 {
		body := make([]byte, 11+9*n)
		copy(body, "LB")
		body[10] = byte(n)
		want, early := api.ErrForm, api.ErrSum
		if n == 0 {
			want, early = api.OK, api.OK
		}
		checkGet(t, summed(body), want)
		checkGet(t, append(summed(body[:11]), body[11:]...), early)
		for _, more := range []int{1, 9} {
			checkGet(t, summed(append(slices.Clone(body), make([]byte, more)...)), api.ErrForm)
			if len(body)-more >= 11 {
				checkGet(t, summed(body[:len(body)-more]), api.ErrShort)
			}
		}
	}
	for _, n := range []int{1, 2, 63, 64, 65, 66, 254, 255} {
		want := api.ErrForm
		if n == 2 || n == 64 {
			want = api.OK
		}
		checkGet(t, summed(slowBody(Batch{1, 2, pairs(n, 5)})), want)
	}
}

// P18.2: a check sum that is another one by a bit, in each of its places, by several, or in another order.
func TestGetSum(t *testing.T) {
	for _, b := range someBatches() {
		bytes := summed(slowBody(b))
		sum := bytes[len(bytes)-4:]
		right := binary.LittleEndian.Uint32(sum)
		for bit := range 32 {
			binary.LittleEndian.PutUint32(sum, right^1<<bit)
			checkGet(t, bytes, api.ErrSum)
		}
		for _, n := range []uint32{0, 1<<32 - 1, ^right, right + 1, right - 1, right << 1, right >> 8} {
			if n != right {
				binary.LittleEndian.PutUint32(sum, n)
				checkGet(t, bytes, api.ErrSum)
			}
		}
		binary.BigEndian.PutUint32(sum, right)
		checkGet(t, bytes, api.ErrSum)
		binary.LittleEndian.PutUint32(sum, right)
		checkGet(t, bytes, api.OK)
	}
}

// mayNotBe are batches whose sum can be put behind their bytes, while they may not be.
func mayNotBe() []Batch {
	two := lines(2, 300, 1, -300)
	l := []Batch{
		{1, 2, lines(1, 5)},
		{1, 2, lines(1, -great)},
		{1, 2, lines(2, 300, 1, -299)},
		{1, 2, lines(2, 300, 1, 300)},
		{1, 2, lines(2, 0, 1, 0)},
		{1, 2, lines(2, 300, 1, -300, 3, 0)},
		{1, 2, lines(2, great+1, 1, -great-1)},
		{1, 2, lines(2, great, 2, 1, 1, -great-1)},
		{1, 2, lines(2, most, 1, -most)},
		{1, 2, lines(2, least, 1, least)},
		{1, 2, lines(2, 1<<62, 1, 1<<62, 2, 1<<62, 1, 1<<62)},
		{1, 2, pairs(65, 5)},
		{1, 2, pairs(66, 5)},
		{1, 2, pairs(254, 5)},
		{1, 2, pairs(255, 5)},
	}
	for _, n := range []int{1 << 31, 1<<31 + 1, 3 << 30, 1<<32 - 2, 1<<32 - 1} {
		l = append(l, Batch{n, 2, nil}, Batch{1, n, nil}, Batch{n, n, nil}, Batch{n, 2, two}, Batch{1, n, two})
	}
	for _, n := range []int64{0, 8, 9, 127, 128, 254, 255} {
		l = append(l, Batch{1, 2, lines(n, 300, 1, -300)}, Batch{1, 2, lines(2, 300, n, -300)}, Batch{1, 2, lines(n, 300, n, -300)})
		for _, at := range []int{0, 31, 63} {
			x := pairs(room, 7)
			x[at].Account = int(n)
			l = append(l, Batch{1, 2, x})
		}
	}
	return l
}

// P18.2: a right sum, of a batch that may not be: all are ErrForm, though Check tells other errors, and behind a wrong sum that.
func TestGetMayNotBe(t *testing.T) {
	for _, b := range mayNotBe() {
		bytes := summed(slowBody(b))
		checkGet(t, bytes, api.ErrForm)
		checkGet(t, append(slices.Clone(bytes), 0), api.ErrForm)
		checkGet(t, bytes[:len(bytes)-1], api.ErrShort)
		bytes[len(bytes)-1] ^= 16
		checkGet(t, bytes, api.ErrSum)
		checkGet(t, append(bytes, 0), api.ErrForm)
	}
}

// P18.2: several wrong at once: the first one that the chapter names is told.
func TestGetSeveralWrong(t *testing.T) {
	wrong := func(b Batch, change func([]byte) []byte) []byte { return change(summed(slowBody(b))) }
	two := Batch{1, 2, lines(2, 300, 1, -300)}
	not := Batch{1 << 31, 2, lines(9, 300, 1, -299)}
	for _, x := range []struct {
		bytes []byte
		e     api.Errno
	}{
		{wrong(two, func(b []byte) []byte { b[0] = 0; return b[:14] }), api.ErrShort},
		{wrong(two, func(b []byte) []byte { b[0] = 0; return b[:15] }), api.ErrForm},
		{wrong(two, func(b []byte) []byte { b[1] = 0; return b[:32] }), api.ErrForm},
		{wrong(two, func(b []byte) []byte { b[1] = 0; b[32]++; return b }), api.ErrForm},
		{wrong(two, func(b []byte) []byte { b[20] = 0; return b[:32] }), api.ErrShort},
		{wrong(two, func(b []byte) []byte { b[20] = 0; return append(b, 1) }), api.ErrForm},
		{wrong(two, func(b []byte) []byte { b[10] = 3; return b }), api.ErrShort},
		{wrong(two, func(b []byte) []byte { b[10] = 1; return b }), api.ErrForm},
		{wrong(two, func(b []byte) []byte { b[10] = 255; return b }), api.ErrShort},
		{wrong(two, func(b []byte) []byte { b[10] = 0; return b }), api.ErrForm},
		{wrong(two, func(b []byte) []byte { b[11] = 9; return b }), api.ErrSum},
		{wrong(not, func(b []byte) []byte { return b[:32] }), api.ErrShort},
		{wrong(not, func(b []byte) []byte { return append(b, 0) }), api.ErrForm},
		{wrong(not, func(b []byte) []byte { b[32]++; return b }), api.ErrSum},
		{wrong(not, func(b []byte) []byte { return b }), api.ErrForm},
		{wrong(Batch{1, 2, pairs(65, 5)}, func(b []byte) []byte { b[2]++; return b }), api.ErrSum},
		{wrong(Batch{1, 2, pairs(65, 5)}, func(b []byte) []byte { b[0]++; return b }), api.ErrForm},
	} {
		if got := checkGet(t, x.bytes, x.e); !equal(got, Batch{}) || got.Lines != nil {
			t.Errorf("%v: %v", told(x.bytes), got)
		}
	}
}

// P18.2: bytes anyhow: such that begin as batches do, and batches with a byte or two of theirs changed, their sum now right and now not.
func TestGetAnyhow(t *testing.T) {
	r := rand.New(rand.NewSource(5))
	counts := map[api.Errno]int{}
	for range 5000 {
		b := slowBody(someBatch(r))
		for range r.Intn(3) {
			b[r.Intn(len(b))] = byte(r.Intn(256))
		}
		switch r.Intn(6) {
		case 0:
			b = b[:r.Intn(len(b))]
		case 1:
			b = append(b, byte(r.Intn(256)))
		}
		b = summed(b)
		if r.Intn(4) == 0 {
			b[r.Intn(len(b))]++
		}
		e := slowError(b)
		checkGet(t, b, e)
		counts[e]++
	}
	for _, e := range []api.Errno{api.OK, api.ErrForm, api.ErrSum, api.ErrShort} {
		if counts[e] < 200 {
			t.Error(e, counts[e])
		}
	}
}

// P18.2: each byte of a batch of two lines set to each value, the sum put right.
func TestGetEachByte(t *testing.T) {
	body := slowBody(Batch{258, 7, lines(2, 300, 1, -300)})
	for at := range body {
		for x := range 256 {
			other := slices.Clone(body)
			other[at] = byte(x)
			checkGet(t, summed(other), slowError(summed(other)))
		}
	}
	for at := range 8 {
		for x := range 256 {
			n := int64(300) ^ int64(x)<<(8*at)
			b := Batch{258, 7, []chart.Line{{Account: chart.Loans, Amount: n}, {Account: chart.Cash, Amount: -n}}}
			checkGet(t, summed(slowBody(b)), slowError(summed(slowBody(b))))
		}
	}
}
