package sums

import (
	"bytes"
	"math"
	"testing"

	"pantler/api"
)

const (
	longest  = 1 << 24 // bytes
	greatest = 1 << 40 // of a real or imaginary part
)

// notParts are complex numbers that are no parts that may be.
func notParts() []complex128 {
	halves := []float64{-1, -0.5, 0.5, greatest - 0.5, greatest + 1, 1 << 41, -greatest, math.MaxFloat64,
		math.SmallestNonzeroFloat64, math.Inf(1), math.Inf(-1), math.NaN()}
	var l []complex128
	for _, x := range halves {
		l = append(l, complex(x, 0), complex(0, x), complex(x, x))
	}
	return l
}

// someBytes are n bytes that depend on seed alone.
func someBytes(seed uint32, n int) []byte {
	b := make([]byte, n)
	for i := range b {
		seed = seed*1664525 + 1013904223
		b[i] = byte(seed >> 24)
	}
	return b
}

// slowSum is the sum of headers as it is reckoned word by word, the carry at once.
func slowSum(b []byte) uint16 {
	n := uint32(0)
	for i := range b {
		w := uint32(b[i])
		if i%2 == 0 {
			w <<= 8
		}
		n += w
		if n >= 1<<16 {
			n -= 1<<16 - 1
		}
	}
	return ^uint16(n)
}

func mustPart(t *testing.T, b []byte) complex128 {
	t.Helper()
	z, e := Part(b)
	if e != api.OK {
		t.Fatalf("Part of %d bytes: %d", len(b), e)
	}
	return z
}

func TestP11Part(t *testing.T) {
	tests := []struct {
		b    []byte
		want complex128
	}{
		{nil, 0},
		{[]byte{}, 0},
		{[]byte{7}, 7},
		{[]byte{0, 7}, 7i},
		{[]byte{1, 2}, 1 + 2i},
		{[]byte{1, 2, 3}, 4 + 2i},
		{[]byte{1, 2, 3, 4}, 4 + 6i},
		{[]byte{255, 254, 255, 254, 255}, 765 + 508i},
	}
	for _, c := range tests {
		before := bytes.Clone(c.b)
		if z, e := Part(c.b); z != c.want || e != api.OK {
			t.Errorf("Part(%v): %v, %d; not %v", c.b, z, e, c.want)
		}
		if !bytes.Equal(before, c.b) {
			t.Errorf("Part changed %v to %v", before, c.b)
		}
	}
}

func TestP11PartOfMany(t *testing.T) {
	b := bytes.Repeat([]byte{255}, longest+1)
	most := complex(255*longest/2, 255*longest/2)
	if z, e := Part(b[:longest]); z != most || e != api.OK {
		t.Errorf("Part of the most bytes: %v, %d", z, e)
	}
	if z, e := Part(b[:longest-1]); z != most-255i || e != api.OK {
		t.Errorf("Part of one byte less: %v, %d", z, e)
	}
	if z, e := Part(b); z != 0 || e != api.ErrLong {
		t.Errorf("Part of one byte more: %v, %d", z, e)
	}
}

func TestP11Turn(t *testing.T) {
	inf := math.Inf(1)
	tests := []struct{ z, want complex128 }{
		{0, 0},
		{4 + 2i, 2 + 4i},
		{7, 7i},
		{greatest, greatest * 1i},
		{complex(-1.5, 0.25), complex(0.25, -1.5)},
		{complex(inf, 3), complex(3, inf)},
		{complex(3, -inf), complex(-inf, 3)},
		{complex(math.MaxFloat64, -math.MaxFloat64), complex(-math.MaxFloat64, math.MaxFloat64)},
	}
	for _, c := range tests {
		if z := Turn(c.z); z != c.want {
			t.Errorf("Turn(%v): %v, not %v", c.z, z, c.want)
		}
	}
	if z := Turn(complex(math.NaN(), 5)); real(z) != 5 || !math.IsNaN(imag(z)) {
		t.Errorf("Turn of no number: %v", z)
	}
}

func TestP11Word(t *testing.T) {
	for w := range 1 << 16 {
		if z := Word(uint16(w)); z != mustPart(t, []byte{byte(w >> 8), byte(w)}) {
			t.Fatalf("Word(%#x): %v", w, z)
		}
	}
	if z := Word(0x1234); z != 18+52i {
		t.Errorf("Word(0x1234): %v", z)
	}
}

func TestP12Join(t *testing.T) {
	const g = greatest
	tests := []struct {
		a      complex128
		length int
		b      complex128
		want   complex128
		e      api.Errno
	}{
		{0, 0, 0, 0, api.OK},
		{4 + 2i, 0, 7 + 1i, 11 + 3i, api.OK},
		{4 + 2i, 1, 7 + 1i, 5 + 9i, api.OK},
		{4 + 2i, 2, 7 + 1i, 11 + 3i, api.OK},
		{4 + 2i, 3, 7 + 1i, 5 + 9i, api.OK},
		{4 + 2i, math.MaxInt - 1, 7 + 1i, 11 + 3i, api.OK},
		{4 + 2i, math.MaxInt, 7 + 1i, 5 + 9i, api.OK},
		{4 + 2i, -1, 7 + 1i, 0, api.ErrArg},
		{4 + 2i, -2, 7 + 1i, 0, api.ErrArg},
		{4 + 2i, math.MinInt, 7 + 1i, 0, api.ErrArg},
		{g + g*1i, 0, 0, g + g*1i, api.OK},
		{0, 1, g, g * 1i, api.OK},
		{g - 1, 0, 1, g, api.OK},
		{g, 0, 1, 0, api.ErrArg},
		{g, 1, 1, g + 1i, api.OK},
		{g * 1i, 0, 1, 1 + g*1i, api.OK},
		{g * 1i, 1, 1, 0, api.ErrArg},
		{g * 1i, 0, 1i, 0, api.ErrArg},
		{g, 1, 1i, 0, api.ErrArg},
		{g, 0, g, 0, api.ErrArg},
	}
	for _, c := range tests {
		if z, e := Join(c.a, c.length, c.b); z != c.want || e != c.e {
			t.Errorf("Join(%v, %d, %v): %v, %d; not %v, %d", c.a, c.length, c.b, z, e, c.want, c.e)
		}
	}
}

func TestP12JoinOfNoParts(t *testing.T) {
	for _, no := range notParts() {
		for length := range 2 {
			if z, e := Join(no, length, 1); z != 0 || e != api.ErrArg {
				t.Errorf("Join(%v, %d, 1): %v, %d", no, length, z, e)
			}
			if z, e := Join(1, length, no); z != 0 || e != api.ErrArg {
				t.Errorf("Join(1, %d, %v): %v, %d", length, no, z, e)
			}
		}
	}
	// Each is wrong, though what comes of both is a part that may be.
	if z, e := Join(-1, 0, 2); z != 0 || e != api.ErrArg {
		t.Errorf("Join(-1, 0, 2): %v, %d", z, e)
	}
	if z, e := Join(0.5, 0, 0.5); z != 0 || e != api.ErrArg {
		t.Errorf("Join(0.5, 0, 0.5): %v, %d", z, e)
	}
	if z, e := Join(2, 1, -1i); z != 0 || e != api.ErrArg {
		t.Errorf("Join(2, 1, -1i): %v, %d", z, e)
	}
}

func TestP13FoldAndSum(t *testing.T) {
	const g = greatest
	tests := []struct {
		z    complex128
		want uint16
	}{
		{0, 0},
		{1, 256},
		{1i, 1},
		{4 + 2i, 1026},
		{255 + 255i, 65535},
		{255 + 256i, 1},
		{256, 1},
		{256 + 65534i, 65535},
		{65535i, 65535},
		{65536i, 1},
		{131070i, 65535},
		{131071i, 1}, // its first step leads to 65536 alone
		{510 + 510i, 65535},
		{g, 1},
		{g * 1i, 256},
		{g + g*1i, 257},
		{(g - 1) + (g-1)*1i, 65535},
	}
	for _, c := range tests {
		if n, e := Fold(c.z); n != c.want || e != api.OK {
			t.Errorf("Fold(%v): %d, %d; not %d", c.z, n, e, c.want)
		}
		if n, e := Sum(c.z); n != 65535-c.want || e != api.OK {
			t.Errorf("Sum(%v): %d, %d; not %d", c.z, n, e, 65535-c.want)
		}
	}
}

func TestP13FoldAndSumOfNoParts(t *testing.T) {
	for _, no := range notParts() {
		if n, e := Fold(no); n != 0 || e != api.ErrArg {
			t.Errorf("Fold(%v): %d, %d", no, n, e)
		}
		if n, e := Sum(no); n != 0 || e != api.ErrArg {
			t.Errorf("Sum(%v): %d, %d", no, n, e)
		}
	}
}

func TestP13Good(t *testing.T) {
	tests := []struct {
		b    []byte
		want bool
	}{
		{nil, false},
		{[]byte{}, false},
		{[]byte{0, 0}, false},
		{[]byte{255}, false},
		{[]byte{255, 255}, true},
		{[]byte{255, 254}, false},
		{[]byte{255, 255, 0}, true},
		{[]byte{255, 255, 255, 255}, true},
		{[]byte{255, 0, 0, 255}, true},
		{[]byte{0, 255, 255}, true},
		{[]byte{255, 255, 0, 1}, false},
		{[]byte{128, 0, 127, 255}, true},
	}
	for _, c := range tests {
		if got := Good(c.b); got != c.want {
			t.Errorf("Good(%v): %v", c.b, got)
		}
	}
}

func TestP13GoodOfMany(t *testing.T) {
	b := bytes.Repeat([]byte{255}, longest+1)
	b[longest] = 0
	if !Good(b[:longest]) {
		t.Error("Good of the most bytes")
	}
	if Good(b) {
		t.Error("Good of one byte more, which changes nothing of the sum")
	}
}

func TestP14CutAnywhere(t *testing.T) {
	for n := range 40 {
		b := someBytes(uint32(n), n)
		whole := mustPart(t, b)
		for cut := range n + 1 {
			z, e := Join(mustPart(t, b[:cut]), cut, mustPart(t, b[cut:]))
			if z != whole || e != api.OK {
				t.Fatalf("%v cut at %d: %v, %d; not %v", b, cut, z, e, whole)
			}
		}
	}
}

func TestP14CutInPieces(t *testing.T) {
	b := someBytes(99, 1500)
	for size := 1; size <= 257; size++ {
		var z complex128
		for at := 0; at < len(b); at += size {
			piece := b[at:min(at+size, len(b))]
			var e api.Errno
			if z, e = Join(z, at, mustPart(t, piece)); e != api.OK {
				t.Fatalf("Join at %d: %d", at, e)
			}
		}
		if z != mustPart(t, b) {
			t.Fatalf("pieces of %d bytes: %v", size, z)
		}
	}
}

func TestP14WithTheirSumBytesAreGood(t *testing.T) {
	zeros, ones := make([]byte, 9), bytes.Repeat([]byte{255}, 9)
	for n := 2; n < 40; n++ {
		texts := [][]byte{someBytes(uint32(n), n)}
		if n <= len(zeros) {
			texts = append(texts, zeros[:n], ones[:n])
		}
		for _, text := range texts {
			for at := 0; at+1 < n; at += 2 {
				checkSumAt(t, bytes.Clone(text), at)
			}
		}
	}
}

// checkSumAt puts the sum of b at a place, and then turns each of its bits.
func checkSumAt(t *testing.T, b []byte, at int) {
	t.Helper()
	b[at], b[at+1] = 0, 0
	n, e := Sum(mustPart(t, b))
	if want := slowSum(b); n != want || e != api.OK {
		t.Fatalf("Sum of %v: %d, %d; not %d", b, n, e, want)
	}
	b[at], b[at+1] = byte(n>>8), byte(n)
	if !Good(b) {
		t.Fatalf("%v with its sum at %d isn't good", b, at)
	}
	for bit := range 8 * len(b) {
		b[bit/8] ^= 1 << (bit % 8)
		if Good(b) {
			t.Fatalf("%v, the bit %d turned, is good", b, bit)
		}
		b[bit/8] ^= 1 << (bit % 8)
	}
}
