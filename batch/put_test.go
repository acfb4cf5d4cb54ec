package batch

import (
	"slices"
	"testing"

	"lombard/api"
)

// P18.1: whole batches by hand, their check sums reckoned elsewhere.
func TestPutNamed(t *testing.T) {
	for _, x := range []struct {
		b    Batch
		want []byte
	}{
		{Batch{}, []byte{76, 66, 0, 0, 0, 0, 0, 0, 0, 0, 0, 89, 237, 154, 45}},
		{Batch{Seq: 1, Event: 1}, []byte{76, 66, 1, 0, 0, 0, 1, 0, 0, 0, 0, 170, 208, 129, 7}},
		{Batch{Seq: highest, Event: highest}, []byte{76, 66, 255, 255, 255, 127, 255, 255, 255, 127, 0, 121, 130, 130, 40}},
		{Batch{258, 7, lines(2, 300, 1, -300)}, []byte{
			76, 66, 2, 1, 0, 0, 7, 0, 0, 0, 2,
			2, 44, 1, 0, 0, 0, 0, 0, 0,
			1, 212, 254, 255, 255, 255, 255, 255, 255,
			137, 46, 58, 147,
		}},
		{Batch{1, 1, lines(2, 1000, 1, -1000)}, []byte{
			76, 66, 1, 0, 0, 0, 1, 0, 0, 0, 2,
			2, 232, 3, 0, 0, 0, 0, 0, 0,
			1, 24, 252, 255, 255, 255, 255, 255, 255,
			70, 56, 141, 131,
		}},
		{Batch{highest, 256, lines(2, great, 1, -great)}, []byte{
			76, 66, 255, 255, 255, 127, 0, 1, 0, 0, 2,
			2, 0, 0, 0, 0, 0, 0, 4, 0,
			1, 0, 0, 0, 0, 0, 0, 252, 255,
			145, 150, 158, 22,
		}},
	} {
		if got := checkPut(t, x.b, api.OK); !slices.Equal(got, x.want) {
			t.Errorf("%v: %v; wanted %v", x.b, got, x.want)
		}
		if got := checkGet(t, x.want, api.OK); !equal(got, x.b) {
			t.Errorf("%v: %v; wanted %v", x.want, got, x.b)
		}
	}
}

// P18.1: how many bytes there are: 15, and 9 for each line.
func TestPutSize(t *testing.T) {
	for n := 0; n <= room; n += 2 {
		if got := len(checkPut(t, Batch{5, 6, pairs(n, 3)}, api.OK)); got != 15+9*n {
			t.Errorf("%d lines: %d", n, got)
		}
	}
}

// byteOf is the byte of a number at a place, the lowest one at 0, of one below 0 that of it and 2^64.
func byteOf(n int64, place int) byte {
	for range place {
		part := n % 256
		if part < 0 {
			part += 256
		}
		n = (n - part) / 256
	}
	return byte((n%256 + 256) % 256)
}

// checkBody holds the bytes of a batch one by one against the chapter.
func checkBody(t *testing.T, b Batch) {
	t.Helper()
	got := checkPut(t, b, api.OK)
	want := []byte{76, 66}
	for place := range 4 {
		want = append(want, byteOf(int64(b.Seq), place))
	}
	for place := range 4 {
		want = append(want, byteOf(int64(b.Event), place))
	}
	want = append(want, byte(len(b.Lines)))
	for _, x := range b.Lines {
		want = append(want, byte(x.Account))
		for place := range 8 {
			want = append(want, byteOf(x.Amount, place))
		}
	}
	sum := slowSum(want)
	for place := range 4 {
		want = append(want, byteOf(int64(sum), place))
	}
	for i := range want {
		if got[i] != want[i] {
			t.Fatalf("the byte %d: %d; wanted %d", i, got[i], want[i])
		}
	}
}

// P18.1: the bytes one by one: of batches of 64 lines, each number at its edges, each amount on each account.
func TestPutBytes(t *testing.T) {
	for _, b := range someBatches() {
		checkBody(t, b)
	}
	for _, n := range mayNumbers() {
		checkBody(t, Batch{n, 0, nil})
		checkBody(t, Batch{0, n, nil})
		checkBody(t, Batch{n, highest - n, pairs(2, 9)})
	}
	for account := int64(1); account <= 7; account++ {
		for _, n := range amounts() {
			checkBody(t, Batch{1, 2, lines(account, n, 8-account, -n)})
		}
	}
	l := pairs(room, 0x0003020100090807)
	for i := range l {
		l[i].Amount += int64(1 - i%2*2) // so that no byte of the two halves is the same
	}
	checkBody(t, Batch{0x7f6e5d4c, 0x3b2a1908, l})
}

// P18.1: lines stand in the order in which they are, though they be the same lines.
func TestPutOrder(t *testing.T) {
	l := lines(2, 300, 1, -100, 1, -200)
	first := checkPut(t, Batch{1, 2, l}, api.OK)
	slices.Reverse(l)
	second := checkPut(t, Batch{1, 2, l}, api.OK)
	if slices.Equal(first, second) || !slices.Equal(first[11:20], second[29:38]) || !slices.Equal(first[20:29], second[20:29]) {
		t.Errorf("%v, %v", first, second)
	}
}
