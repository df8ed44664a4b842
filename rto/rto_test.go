package rto

import (
	"math"
	"math/rand"
	"testing"
)

// model is a clock by the chapter's words, with divisions in place of shifts.
type model struct {
	s, v   int
	sample bool
	w      int
}

func newModel() model {
	return model{w: 4}
}

// ends tells n, or the end that it is beyond.
func ends(n, least, most int) int {
	if n < least {
		return least
	}
	if n > most {
		return most
	}
	return n
}

// sampled tells the model behind a sample.
func (m model) sampled(ticks int) model {
	ticks = ends(ticks, 0, 64)
	if !m.sample {
		m.s, m.v, m.sample = 8*ticks, 2*ticks, true
	} else {
		d := ticks - m.s/8
		m.s = m.s + d
		if d < 0 {
			d = -d
		}
		m.v = m.v - m.v/4 + d
	}
	greater := 1
	if m.v > 1 {
		greater = m.v
	}
	m.w = ends(m.s/8+greater, 2, 64)
	return m
}

// backed tells the model behind a Back.
func (m model) backed() model {
	m.w = ends(2*m.w, 2, 64)
	return m
}

// check asks for all that a clock tells.
func check(t *testing.T, c *Clock, s, v, w int) {
	t.Helper()
	if gotS, gotV := c.Smooth(); gotS != s || gotV != v || c.Wait() != w {
		t.Fatalf("S %d, V %d, W %d; not %d, %d, %d", gotS, gotV, c.Wait(), s, v, w)
	}
}

// checkModel holds all that a clock tells against the model.
func checkModel(t *testing.T, c *Clock, m model) {
	t.Helper()
	check(t, c, m.s, m.v, m.w)
}

func TestP201New(t *testing.T) {
	c := New()
	if c == nil {
		t.Fatal("no clock")
	}
	check(t, c, 0, 0, 4)
	check(t, c, 0, 0, 4) // who asks changes nothing
}

func TestP201Example(t *testing.T) {
	c := New()
	check(t, c, 0, 0, 4)
	c.Back()
	check(t, c, 0, 0, 8)
	c.Sample(10)
	check(t, c, 80, 20, 30)
}

func TestP201FirstSample(t *testing.T) {
	for _, c := range []struct{ ticks, s, v, w int }{
		{0, 0, 0, 2}, {1, 8, 2, 3}, {2, 16, 4, 6}, {3, 24, 6, 9}, {10, 80, 20, 30}, {21, 168, 42, 63}, {22, 176, 44, 64},
		{32, 256, 64, 64}, {63, 504, 126, 64}, {64, 512, 128, 64},
		{65, 512, 128, 64}, {66, 512, 128, 64}, {128, 512, 128, 64}, {1 << 32, 512, 128, 64}, {1<<32 + 1, 512, 128, 64},
		{1 << 61, 512, 128, 64}, {math.MaxInt, 512, 128, 64},
		{-1, 0, 0, 2}, {-64, 0, 0, 2}, {-1 << 32, 0, 0, 2}, {1 - 1<<61, 0, 0, 2}, {math.MinInt, 0, 0, 2},
	} {
		x := New()
		x.Sample(c.ticks)
		check(t, x, c.s, c.v, c.w)
	}
}

func TestP201FurtherSamples(t *testing.T) {
	for _, c := range []struct {
		ticks   []int
		s, v, w int
	}{
		{[]int{4, 12}, 40, 14, 19},
		{[]int{10, 10}, 80, 15, 25},     // it swings less
		{[]int{10, 0}, 70, 25, 33},      // d is -10, and counts without its sign for V
		{[]int{10, 9}, 79, 16, 25},      // S divided by 8 is 9 without the rest
		{[]int{10, 9, 9}, 79, 12, 21},   // so d is 0 here
		{[]int{10, 9, 10}, 80, 13, 23},  // and 1 here
		{[]int{3, 3}, 24, 5, 8},         // V less 1, as 6 divided by 4 is 1 without the rest
		{[]int{1, 1}, 8, 2, 3},          // V less 0
		{[]int{0, 0}, 0, 0, 2},          // 1 is the greater one, and W isn't below 2
		{[]int{0, 1}, 1, 1, 2},          // W is 1 before it is cut
		{[]int{0, 8}, 8, 8, 9},          // a sample of 0 was a sample
		{[]int{-5, 8}, 8, 8, 9},         // and so is what is cut to it
		{[]int{0, 64}, 64, 64, 64},      // W is 72 before it is cut
		{[]int{64, 64}, 512, 96, 64},    // S stays at its end
		{[]int{64, 65}, 512, 96, 64},    // as a sample of 65 is one of 64
		{[]int{64, 0}, 448, 160, 64},    // d is -64
		{[]int{64, -1}, 448, 160, 64},   // as a sample of -1 is one of 0
		{[]int{20, 1000}, 204, 74, 64},  // d is 44
		{[]int{20, -1000}, 140, 50, 64}, // d is -20
		{[]int{2, math.MaxInt}, 78, 65, 64},
		{[]int{2, math.MinInt}, 14, 5, 6},
		{[]int{8, 0, 0, 0}, 43, 23, 28},
	} {
		x := New()
		for _, n := range c.ticks {
			x.Sample(n)
		}
		check(t, x, c.s, c.v, c.w)
	}
}

// V less V divided by 4 without the rest stays as it is from 3 on, however often the same sample comes.
func TestP201Settled(t *testing.T) {
	for _, ticks := range []int{2, 5, 60, 61, 62, 64} {
		c := New()
		for range 200 {
			c.Sample(ticks)
		}
		check(t, c, 8*ticks, 3, min(64, ticks+3))
	}
	c := New()
	for range 100 {
		c.Sample(0)
		check(t, c, 0, 0, 2)
	}
	for range 16 {
		c.Sample(1)
	}
	check(t, c, 8, 3, 4)
}

func TestP201Back(t *testing.T) {
	c := New()
	for _, w := range []int{8, 16, 32, 64, 64, 64} {
		c.Back()
		check(t, c, 0, 0, w)
	}
	for _, l := range []struct {
		ticks int
		waits []int
	}{
		{0, []int{2, 4, 8, 16, 32, 64, 64}}, {1, []int{3, 6, 12, 24, 48, 64, 64}}, {2, []int{6, 12, 24, 48, 64, 64}},
		{10, []int{30, 60, 64, 64}}, {11, []int{33, 64, 64}}, {21, []int{63, 64, 64}}, {64, []int{64, 64}},
	} {
		c := New()
		c.Sample(l.ticks)
		for i, w := range l.waits {
			if i > 0 {
				c.Back()
			}
			check(t, c, 8*l.ticks, 2*l.ticks, w)
		}
	}
}

// What a Back made of the wait is gone with the next sample, and no Back counts as one.
func TestP201SampleBehindBack(t *testing.T) {
	c := New()
	for range 100 {
		c.Back()
	}
	c.Sample(4)
	check(t, c, 32, 8, 12)
	c.Back()
	c.Back()
	check(t, c, 32, 8, 48)
	c.Sample(12)
	check(t, c, 40, 14, 19)
}

func TestP201Nil(t *testing.T) {
	var c *Clock
	for _, ticks := range []int{0, 1, 64, math.MaxInt, math.MinInt} {
		c.Sample(ticks)
		c.Back()
		check(t, c, 0, 0, 0)
	}
}

// Each clock has its own numbers.
func TestP201Apart(t *testing.T) {
	a, b := New(), New()
	a.Sample(10)
	b.Back()
	check(t, a, 80, 20, 30)
	check(t, b, 0, 0, 8)
	b.Sample(4)
	check(t, New(), 0, 0, 4)
	check(t, a, 80, 20, 30)
	check(t, b, 32, 8, 12)
}

// reached tells the models of all clocks that samples from 0 to 64 lead to, as far as they differ in what they tell.
func reached() []model {
	line := []model{newModel()}
	seen := map[model]bool{line[0]: true}
	for i := 0; i < len(line); i++ {
		for ticks := range 65 {
			if m := line[i].sampled(ticks); !seen[m] {
				seen[m] = true
				line = append(line, m)
			}
		}
	}
	return line
}

// clockOf tells a clock in the same state as a model.
func clockOf(m model) *Clock {
	return &Clock{smooth: m.s, swing: m.v, sampled: m.sample, wait: m.w}
}

// From all clocks that samples lead to all samples and Backs do what the model does.
func TestP201AllSamples(t *testing.T) {
	for _, m := range reached() {
		start := clockOf(m)
		for ticks := -1; ticks <= 65; ticks++ {
			c := *start
			c.Sample(ticks)
			checkModel(t, &c, m.sampled(ticks))
		}
		for range 7 {
			start.Back()
			m = m.backed()
			checkModel(t, start, m)
		}
	}
}

// From all clocks that samples lead to the wait is within its ends, and a Back never makes it less.
func TestP202AllWaits(t *testing.T) {
	for _, m := range reached() {
		start := clockOf(m)
		for ticks := range 65 {
			c := *start
			c.Sample(ticks)
			if w := c.Wait(); w < 2 || w > 64 {
				t.Fatalf("Sample(%d) of %v: wait %d", ticks, m, w)
			}
		}
		for range 7 {
			w := start.Wait()
			start.Back()
			if start.Wait() < w || start.Wait() < 2 || start.Wait() > 64 {
				t.Fatalf("Back of %v: wait %d, which was %d", m, start.Wait(), w)
			}
		}
	}
}

// Any samples and Backs, from a clock that New made on.
func TestP202Random(t *testing.T) {
	r := rand.New(rand.NewSource(20))
	for range 2000 {
		c, m := New(), newModel()
		most := 1 + r.Intn(80)
		for range 100 {
			w := c.Wait()
			switch r.Intn(8) {
			case 0, 1, 2:
				c.Back()
				m = m.backed()
				if c.Wait() < w {
					t.Fatalf("Back made %d of %d", c.Wait(), w)
				}
			case 3:
				ticks := int(r.Uint64()) >> r.Intn(64)
				c.Sample(ticks)
				m = m.sampled(ticks)
			default:
				ticks := r.Intn(most)
				c.Sample(ticks)
				m = m.sampled(ticks)
			}
			checkModel(t, c, m)
			if c.Wait() < 2 || c.Wait() > 64 {
				t.Fatalf("wait %d", c.Wait())
			}
		}
	}
}
