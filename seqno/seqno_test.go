package seqno

import (
	"math"
	"math/big"
	"math/rand"
	"testing"
)

const (
	half = 1 << 31
	all  = 1 << 32
)

var (
	numbers = []uint32{
		0, 1, 2, 3, 255, 256, 65535, 65536, half/2 - 1, half / 2, half - 2, half - 1, half, half + 1, half + 2,
		half + half/2, all - 65536, all - 256, all - 3, all - 2, all - 1,
	}
	counts = []int{
		0, 1, 2, 3, 4, 5, 255, 256, 65535, 65536, half - 2, half - 1, half, half + 1, half + 2, all - 2, all - 1, all, all + 1,
		all + 2, all + half - 1, all + half, all + half + 1, 2*all - 1, 2 * all, 1<<40 + 77, 1<<53 + 1,
		math.MaxInt - all, math.MaxInt - half - 1, math.MaxInt - half, math.MaxInt - half + 1, math.MaxInt - 1, math.MaxInt,
		-1, -2, -3, -5, -255, -65536, -half + 1, -half, -half - 1, -all + 1, -all, -all - 1, -all - half, -2 * all, -1<<40 - 77,
		math.MinInt + all, math.MinInt + half + 1, math.MinInt + half, math.MinInt + half - 1, math.MinInt + 1, math.MinInt,
	}
)

// rest tells the rest of n by 2^32, which is never below 0.
func rest(n *big.Int) uint32 {
	return uint32(new(big.Int).Mod(n, big.NewInt(all)).Uint64())
}

// modelAdd tells the number n further on, by the chapter's words.
func modelAdd(a uint32, n int) uint32 {
	return rest(new(big.Int).Add(big.NewInt(int64(a)), big.NewInt(int64(n))))
}

// modelFar tells b less a, as often less or more by 2^32 as it takes.
func modelFar(a, b uint32) int {
	n := int(b) - int(a)
	for n < -half {
		n += all
	}
	for n >= half {
		n -= all
	}
	return n
}

// modelWithin tells whether x is one of n from first on, by how many steps lead on from first to x.
func modelWithin(x, first uint32, n int) bool {
	if n < 0 || n > half-1 {
		return false
	}
	steps := int(x) - int(first)
	if steps < 0 {
		steps += all
	}
	return steps < n
}

// modelOffset tells the nearest of all places around near that an int can tell, the lesser ones first.
func modelOffset(first, x uint32, near int) int {
	at := big.NewInt(int64(near))
	turn := new(big.Int).Sub(at, big.NewInt(int64(modelAdd(0, near))))
	turn.Add(turn, big.NewInt(int64(rest(big.NewInt(int64(x)-int64(first))))))
	var nearest, least *big.Int
	for k := int64(-2); k <= 2; k++ {
		o := new(big.Int).Add(turn, big.NewInt(k*all))
		away := new(big.Int).Sub(o, at)
		away.Abs(away)
		if o.IsInt64() && (least == nil || away.Cmp(least) < 0) {
			nearest, least = o, away
		}
	}
	return int(nearest.Int64())
}

// checkPair holds what is told of two numbers against the models.
func checkPair(t *testing.T, a, b uint32) {
	t.Helper()
	far, later := modelFar(a, b), a
	if far > 0 {
		later = b
	}
	if n := Far(a, b); n != far {
		t.Fatalf("Far(%d, %d): %d, not %d", a, b, n, far)
	}
	if is := Before(a, b); is != (far > 0) {
		t.Fatalf("Before(%d, %d): %t", a, b, is)
	}
	if n := Later(a, b); n != later {
		t.Fatalf("Later(%d, %d): %d, not %d", a, b, n, later)
	}
}

// checkCount holds what is told of two numbers and a whole one against the models.
func checkCount(t *testing.T, a, b uint32, n int) {
	t.Helper()
	if x, want := Add(a, n), modelAdd(a, n); x != want {
		t.Fatalf("Add(%d, %d): %d, not %d", a, n, x, want)
	}
	if is := Within(a, b, n); is != modelWithin(a, b, n) {
		t.Fatalf("Within(%d, %d, %d): %t", a, b, n, is)
	}
	if o, want := Offset(a, b, n), modelOffset(a, b, n); o != want {
		t.Fatalf("Offset(%d, %d, %d): %d, not %d", a, b, n, o, want)
	}
}

func TestP181Add(t *testing.T) {
	for _, c := range []struct {
		a    uint32
		n    int
		want uint32
	}{
		{0, 0, 0}, {5, 7, 12}, {12, -7, 5}, {3, -5, all - 2}, {0, -1, all - 1}, {all - 1, 1, 0}, {all - 1, 2, 1},
		{7, half, half + 7}, {7, -half, half + 7}, {half + 7, half, 7}, {7, all - 1, 6}, {7, all, 7}, {7, -all, 7},
		{7, all + 1, 8}, {7, -all - 1, 6}, {7, 3*all + 5, 12}, {7, -3*all - 5, 2},
		{1, math.MaxInt, 0}, {0, math.MaxInt, all - 1}, {9, math.MinInt, 9}, {9, math.MinInt + 1, 10},
	} {
		if x := Add(c.a, c.n); x != c.want {
			t.Errorf("Add(%d, %d): %d, not %d", c.a, c.n, x, c.want)
		}
	}
}

func TestP181Far(t *testing.T) {
	for _, c := range []struct {
		a, b uint32
		want int
	}{
		{7, 7, 0}, {7, 9, 2}, {9, 7, -2}, {all - 1, 1, 2}, {1, all - 1, -2}, {all - 1, 0, 1}, {0, all - 1, -1},
		{0, half - 1, half - 1}, {0, half, -half}, {0, half + 1, -half + 1}, {half, 0, -half}, {half - 1, 0, -half + 1},
		{half + 1, 0, half - 1}, {all - 1, half - 1, -half}, {all - 1, half - 2, half - 1}, {half, half - 1, -1},
	} {
		if n := Far(c.a, c.b); n != c.want {
			t.Errorf("Far(%d, %d): %d, not %d", c.a, c.b, n, c.want)
		}
	}
}

// None of two that are half of all numbers apart is before the other one, nor is a number before itself.
func TestP181BeforeAndLater(t *testing.T) {
	for _, c := range []struct {
		a, b   uint32
		before bool
		later  uint32
	}{
		{7, 7, false, 7}, {7, 8, true, 8}, {8, 7, false, 8}, {all - 1, 2, true, 2}, {2, all - 1, false, 2},
		{0, half - 1, true, half - 1}, {0, half, false, 0}, {0, half + 1, false, 0}, {half, 0, false, half},
		{half + 1, 0, true, 0}, {half - 1, 0, false, half - 1}, {5, half + 5, false, 5}, {half + 5, 5, false, half + 5},
	} {
		if is := Before(c.a, c.b); is != c.before {
			t.Errorf("Before(%d, %d): %t", c.a, c.b, is)
		}
		if x := Later(c.a, c.b); x != c.later {
			t.Errorf("Later(%d, %d): %d, not %d", c.a, c.b, x, c.later)
		}
	}
}

func TestP181Within(t *testing.T) {
	for _, c := range []struct {
		x, first uint32
		n        int
		want     bool
	}{
		{5, 5, 0, false}, {5, 5, 1, true}, {6, 5, 1, false}, {4, 5, 1, false}, {6, 5, 2, true}, {7, 5, 2, false},
		{2, all - 1, 4, true}, {3, all - 1, 4, false}, {all - 1, all - 1, 4, true}, {all - 2, all - 1, 4, false},
		{half - 2, 0, half - 1, true}, {half - 1, 0, half - 1, false}, {half - 2, 0, half - 2, false}, {half, 0, half - 1, false},
		{half + 1, 0, half - 1, false}, {all - 1, 0, half - 1, false}, {half - 7, all - 5, half - 1, true},
		{5, 5, half, false}, {5, 5, half + 1, false}, {5, 5, all - 1, false}, {5, 5, all, false}, {5, 5, all + 1, false},
		{5, 5, math.MaxInt, false}, {5, 5, -1, false}, {4, 5, -1, false}, {4, 5, -2, false}, {5, 5, -half, false},
		{5, 5, -all, false}, {5, 5, -all + 1, false}, {5, 5, math.MinInt, false}, {5, 5, math.MinInt + 1, false},
	} {
		if is := Within(c.x, c.first, c.n); is != c.want {
			t.Errorf("Within(%d, %d, %d): %t", c.x, c.first, c.n, is)
		}
	}
}

// Of each run of numbers the ones at its ends are in it, and their neighbours aren't.
func TestP181WithinEnds(t *testing.T) {
	for _, first := range numbers {
		for _, n := range []int{1, 2, 3, 100, 2048, 65536, half / 2, half - 2, half - 1} {
			last := first + uint32(n) - 1
			if !Within(first, first, n) || !Within(last, first, n) || Within(first-1, first, n) || Within(last+1, first, n) {
				t.Errorf("Within at the ends of %d from %d on", n, first)
			}
		}
	}
}

func TestP181AllNear(t *testing.T) {
	for _, a := range numbers {
		for _, apart := range []uint32{0, half, all - half/2} {
			for d := range uint32(600) {
				checkPair(t, a, a+apart+d-300)
			}
		}
		for _, b := range numbers {
			checkPair(t, a, b)
			for _, n := range counts {
				checkCount(t, a, b, n)
			}
		}
	}
}

func TestP182Offset(t *testing.T) {
	for _, c := range []struct {
		first, x uint32
		near     int
		want     int
	}{
		{0, 0, 0, 0}, {100, 107, 0, 7}, {100, 107, 7, 7}, {100, 90, 0, -10}, {100, 90, 20, -10}, {all - 10, 5, 0, 15},
		{5, all - 10, 0, -15}, {100, 90, all, all - 10}, {100, 110, all, all + 10}, {100, 90, -all, -all - 10},
		{100, 110, all - 20, all + 10}, {100, 110, all + half - 1, all + 10}, {7, 7, half - 1, 0}, {7, 7, half + 1, all},
		{7, 7, -half + 1, 0}, {7, 7, -half - 1, -all}, {7, 8, 1 << 40, 1<<40 + 1}, {7, 6, 1<<40 + 5, 1<<40 - 1},
		{7, 6, -1 << 40, -1<<40 - 1}, {0, 3, 5*all + 1000, 5*all + 3},
	} {
		if o := Offset(c.first, c.x, c.near); o != c.want {
			t.Errorf("Offset(%d, %d, %d): %d, not %d", c.first, c.x, c.near, o, c.want)
		}
	}
}

// Of two places that are as near the less one is told.
func TestP182OffsetBetweenTwo(t *testing.T) {
	for _, near := range []int{0, 1, -1, half, -half, all, -all, 77, half + 77, 1<<40 + 3, -1<<40 - 3} {
		for _, first := range numbers {
			if o := Offset(first, modelAdd(first, near+half), near); o != near-half {
				t.Errorf("Offset near %d from %d on: %d, not %d", near, first, o, near-half)
			}
		}
	}
}

// Where the nearest place is beyond the ends of int the one on the other side is told, as nothing goes round there.
func TestP182OffsetAtEnds(t *testing.T) {
	for _, c := range []struct {
		x          uint32
		near, want int
	}{
		{all - 1, math.MaxInt, math.MaxInt}, {all - 6, math.MaxInt, math.MaxInt - 5}, {0, math.MaxInt, math.MaxInt - all + 1},
		{0, math.MaxInt - 1, math.MaxInt - all + 1}, {half - 2, math.MaxInt, math.MaxInt - half - 1},
		{half - 1, math.MaxInt, math.MaxInt - half}, {half, math.MaxInt, math.MaxInt - half + 1},
		{0, math.MaxInt - half, math.MaxInt - all + 1}, {0, math.MaxInt - half - 1, math.MaxInt - all + 1},
		{all - 1, math.MaxInt - half + 1, math.MaxInt},
		{0, math.MinInt, math.MinInt}, {5, math.MinInt, math.MinInt + 5}, {all - 1, math.MinInt, math.MinInt + all - 1},
		{all - 1, math.MinInt + 1, math.MinInt + all - 1}, {half - 1, math.MinInt, math.MinInt + half - 1},
		{half, math.MinInt, math.MinInt + half}, {half + 1, math.MinInt, math.MinInt + half + 1},
		{0, math.MinInt + half, math.MinInt}, {all - 1, math.MinInt + half - 1, math.MinInt + all - 1},
		{all - 1, math.MinInt + half, math.MinInt + all - 1},
	} {
		for _, first := range numbers {
			if o := Offset(first, first+c.x, c.near); o != c.want {
				t.Errorf("Offset(%d, %d, %d): %d, not %d", first, first+c.x, c.near, o, c.want)
			}
		}
	}
}

func TestP183AddAndFar(t *testing.T) {
	for _, a := range numbers {
		for _, b := range numbers {
			if x := Add(a, Far(a, b)); x != b {
				t.Errorf("Add(%d, Far(%d, %d)): %d", a, a, b, x)
			}
		}
		for _, n := range counts {
			if -half <= n && n < half && Far(a, Add(a, n)) != n {
				t.Errorf("Far(%d, Add(%d, %d)): %d", a, a, n, Far(a, Add(a, n)))
			}
		}
	}
}

func TestP183OffsetTellsPlaces(t *testing.T) {
	for _, first := range numbers {
		for _, near := range counts {
			for _, d := range []int{0, 1, 2, 900, 65536, half - 2, half - 1, -1, -2, -900, -half + 1, -half} {
				place := near + d
				if (place < near) != (d < 0) {
					continue // no int has that place
				}
				if o := Offset(first, Add(first, place), near); o != place {
					t.Errorf("Offset of place %d near %d from %d on: %d", place, near, first, o)
				}
			}
		}
	}
}

func TestP183Random(t *testing.T) {
	r := rand.New(rand.NewSource(18))
	for range 200000 {
		a, b, n := r.Uint32(), r.Uint32(), int(r.Uint64())>>r.Intn(64)
		if r.Intn(3) == 0 {
			b = a + uint32(r.Intn(9)-4)<<r.Intn(32)
		}
		checkPair(t, a, b)
		checkCount(t, a, b, n)
		checkCount(t, a, b, modelFar(b, a)+r.Intn(3))
		if x := Add(a, Far(a, b)); x != b {
			t.Fatalf("Add(%d, Far(%d, %d)): %d", a, a, b, x)
		}
	}
}

func TestExamples(t *testing.T) {
	if n := Far(4294967295, 1); n != 2 {
		t.Errorf("Far(4294967295, 1): %d", n)
	}
}
