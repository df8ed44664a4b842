package tcb

import (
	"math"
	"slices"
	"testing"

	"pantler/api"
	"pantler/seg"
)

// The own stream's place 0 has the number 1001, the peer's 501, where a test doesn't say otherwise.
const (
	iss = 1000
	irs = 500
)

// line is a connection of a test, with what is wanted of each call.
type line struct {
	*testing.T
	x *TCB
}

// begin accepts.
func begin(t *testing.T, mss, room int) line {
	t.Helper()
	x, out, e := Accept(iss, seg.Seg{Seq: irs, Flags: 2, Window: 77}, mss, room)
	if x == nil || e != api.OK || !slices.Equal(out, []Out{{Flags: 18, Seq: iss, Ack: irs + 1, Window: room, MSS: mss}}) {
		t.Fatalf("Accept: %v, %+v, %d", x, out, e)
	}
	return line{t, x}
}

// opened accepts, and lets the peer answer with its window.
func opened(t *testing.T, mss, room, window int) line {
	t.Helper()
	l := begin(t, mss, room)
	l.in(from(0, 0, window, ""))
	l.state(2)
	return l
}

// from tells a segment of the peer: its data from a place on, how much of the own stream it acknowledges, and its window.
func from(place, acked, window int, data string) seg.Seg {
	return seg.Seg{Seq: uint32(irs + 1 + place), Ack: uint32(iss + 1 + acked), Flags: 16, Window: uint16(window), Data: []byte(data)}
}

// flagged tells a segment with other flags.
func flagged(s seg.Seg, flags int) seg.Seg {
	s.Flags = flags
	return s
}

// plainAck tells what a plain ack is, where so much was sent, and so much came.
func plainAck(nxt, expected, window int) Out {
	return Out{Flags: 16, Seq: uint32(iss + 1 + nxt), Ack: uint32(irs + 1 + expected), Window: window}
}

// part tells what n bytes are, from a place on, where so much came.
func part(flags, from, n, expected, window int) Out {
	return Out{Flags: flags, Seq: uint32(iss + 1 + from), Ack: uint32(irs + 1 + expected), Window: window, From: from, Len: n}
}

// bare tells what is sent without bytes.
func bare(flags, place, expected, window int) Out {
	return Out{Flags: flags, Seq: uint32(iss + 1 + place), Ack: uint32(irs + 1 + expected), Window: window}
}

func (l line) sent(what string, got, want []Out) {
	l.Helper()
	if !slices.Equal(got, want) {
		l.Fatalf("%s:\n     %+v\nnot: %+v", what, got, want)
	}
}

func (l line) in(s seg.Seg, want ...Out) {
	l.Helper()
	l.sent("In", l.x.In(s), want)
}

func (l line) tick(want ...Out) {
	l.Helper()
	l.sent("Tick", l.x.Tick(), want)
}

// silent lets so many ticks go by, at which nothing is sent.
func (l line) silent(ticks int) {
	l.Helper()
	for range ticks {
		l.tick()
	}
}

func (l line) write(n int, want ...Out) {
	l.Helper()
	out, e := l.x.Write(n)
	if e != api.OK {
		l.Fatalf("Write(%d): %d", n, e)
	}
	l.sent("Write", out, want)
}

func (l line) noWrite(n int, want api.Errno) {
	l.Helper()
	una, nxt, end := l.x.Places()
	if out, e := l.x.Write(n); e != want || len(out) != 0 {
		l.Fatalf("Write(%d): %+v, %d, not %d", n, out, e, want)
	}
	l.places(una, nxt, end)
}

func (l line) close(want ...Out) {
	l.Helper()
	out, e := l.x.Close()
	if e != api.OK {
		l.Fatalf("Close: %d", e)
	}
	l.sent("Close", out, want)
}

func (l line) noClose() {
	l.Helper()
	state := l.x.State()
	if out, e := l.x.Close(); e != api.ErrState || len(out) != 0 {
		l.Fatalf("Close: %+v, %d", out, e)
	}
	l.state(state)
}

func (l line) read(text string, want ...Out) {
	l.Helper()
	b, out := l.x.Read()
	if string(b) != text {
		l.Fatalf("Read: %q, not %q", b, text)
	}
	l.sent("Read", out, want)
}

func (l line) abort(want ...Out) {
	l.Helper()
	l.sent("Abort", l.x.Abort(), want)
}

func (l line) state(want int) {
	l.Helper()
	if got := l.x.State(); got != want {
		l.Fatalf("state %d, not %d", got, want)
	}
	if done := l.x.Done(); done != (want == 3 || want >= 6) && want != 0 {
		l.Fatalf("state %d, done %t", want, done)
	}
}

func (l line) places(una, nxt, end int) {
	l.Helper()
	if u, n, e := l.x.Places(); u != una || n != nxt || e != end {
		l.Fatalf("places %d, %d, %d, not %d, %d, %d", u, n, e, una, nxt, end)
	}
}

// reach leads to a state, without a byte of either stream.
func reach(t *testing.T, state int) line {
	t.Helper()
	l := begin(t, 100, 300)
	peerFIN := flagged(from(0, 0, 50, ""), 17)
	if state > 1 {
		l.in(from(0, 0, 50, ""))
	}
	if state == 3 || state == 7 {
		l.in(peerFIN, plainAck(0, 1, 300))
	}
	if state >= 4 {
		expected := 0
		if state == 7 {
			expected = 1
		}
		l.close(bare(17, 0, expected, 300))
	}
	if state == 5 {
		l.in(from(0, 1, 50, ""))
	}
	if state == 6 || state == 8 {
		l.in(peerFIN, plainAck(1, 1, 300))
	}
	if state == 8 {
		l.in(from(1, 1, 50, ""))
	}
	if state == 0 {
		l.abort(bare(20, 0, 0, 300))
	}
	l.state(state)
	return l
}

func TestP221Example(t *testing.T) {
	x, out, e := Accept(7, seg.Seg{Seq: 100, Flags: 2}, 536, 1000)
	if e != api.OK || !slices.Equal(out, []Out{{Flags: 18, Seq: 7, Ack: 101, Window: 1000, MSS: 536}}) {
		t.Fatalf("%+v, %d", out, e)
	}
	l := line{t, x}
	l.state(1)
	l.places(0, 0, 0)
	l.read("")
}

func TestP221Flags(t *testing.T) {
	for flags := -70; flags < 300; flags++ {
		x, out, e := Accept(iss, seg.Seg{Seq: irs, Flags: flags}, 100, 100)
		if flags&2 != 0 && flags&(1|4|16) == 0 {
			if e != api.OK || x.State() != 1 || !slices.Equal(out, []Out{{Flags: 18, Seq: iss, Ack: irs + 1, Window: 100, MSS: 100}}) {
				t.Errorf("flags %d: %+v, %d", flags, out, e)
			}
		} else if x != nil || len(out) != 0 || e != api.ErrArg {
			t.Errorf("flags %d: %v, %+v, %d", flags, x, out, e)
		}
	}
}

func TestP221MSSAndRoom(t *testing.T) {
	far := []int{math.MinInt, math.MinInt32, -1 << 32, -2, -1, 0, 1 << 16, 1<<32 + 1, math.MaxInt32, math.MaxInt}
	syn := seg.Seg{Seq: irs, Flags: 2}
	for mss := 1; mss <= 900; mss++ {
		begin(t, mss, 300)
	}
	for room := 1; room <= 2048; room++ {
		begin(t, 300, room)
	}
	begin(t, 900, 2048)
	begin(t, 1, 1)
	for _, n := range append(far, 901, 2048, 2049) {
		if x, out, e := Accept(iss, syn, n, 300); x != nil || len(out) != 0 || e != api.ErrArg {
			t.Errorf("MSS %d: %v, %+v, %d", n, x, out, e)
		}
	}
	for _, n := range append(far, 2049, 4096) {
		if x, out, e := Accept(iss, syn, 300, n); x != nil || len(out) != 0 || e != api.ErrArg {
			t.Errorf("room %d: %v, %+v, %d", n, x, out, e)
		}
	}
}

// The own MSS is told, and the less one of both is sent.
func TestP221TheLessMSS(t *testing.T) {
	for _, c := range []struct{ own, peer, want int }{
		{200, 100, 100}, {100, 200, 100}, {100, 100, 100}, {100, 99, 99}, {900, 1, 1}, {1, 900, 1}, {900, 65535, 900}, {800, math.MaxInt, 800},
		{900, 0, 536}, {900, -1, 536}, {900, math.MinInt, 536}, {537, 0, 536}, {536, 0, 536}, {535, 0, 535}, {100, -5, 100}, {900, 537, 537}, {900, 536, 536}, {900, 899, 899},
	} {
		x, out, e := Accept(iss, seg.Seg{Seq: irs, Flags: 2, MSS: c.peer}, c.own, 300)
		if e != api.OK || len(out) != 1 || out[0].MSS != c.own {
			t.Fatalf("%+v: %+v, %d", c, out, e)
		}
		l := line{t, x}
		l.in(from(0, 0, 2000, ""))
		if c.want < 900 {
			l.write(c.want+1, part(16, 0, c.want, 0, 300), part(24, c.want, 1, 0, 300))
		} else {
			l.write(c.want, part(24, 0, c.want, 0, 300))
		}
	}
}

func TestP221NumbersGoRound(t *testing.T) {
	x, out, e := Accept(1<<32-1, seg.Seg{Seq: 1<<32 - 1, Flags: 2}, 100, 100)
	l := line{t, x}
	if e != api.OK {
		t.Fatal(e)
	}
	l.sent("Accept", out, []Out{{Flags: 18, Seq: 1<<32 - 1, Ack: 0, Window: 100, MSS: 100}})
	l.in(seg.Seg{Seq: 0, Ack: 0, Flags: 16, Window: 100})
	l.write(5, Out{Flags: 24, Seq: 0, Window: 100, Len: 5})
	l.in(seg.Seg{Seq: 0, Ack: 5, Flags: 16, Window: 100, Data: []byte("abc")})
	l.tick()
	l.tick(Out{Flags: 16, Seq: 5, Ack: 3, Window: 97})
}

// The streams are read near what is known, wherever their numbers go round.
func TestP222NumbersGoRoundOnTheWay(t *testing.T) {
	for ahead := range uint32(12) {
		x, _, _ := Accept(-ahead-1, seg.Seg{Seq: -ahead - 1, Flags: 2}, 4, 10)
		l := line{t, x}
		own, peer := -ahead, -ahead
		l.in(seg.Seg{Seq: peer, Ack: own, Flags: 16, Window: 4})
		l.write(12, Out{Flags: 16, Seq: own, Ack: peer, Window: 10, Len: 4})
		for place := 4; place < 12; place += 4 {
			flags := 16 + place/8*8
			l.in(seg.Seg{Seq: peer, Ack: own + uint32(place), Flags: 16, Window: 4}, Out{Flags: flags, Seq: own + uint32(place), Ack: peer, Window: 10, From: place, Len: 4})
		}
		l.in(seg.Seg{Seq: peer + 5, Ack: own + 12, Flags: 17, Window: 4, Data: []byte("fghij")}, Out{Flags: 16, Seq: own + 12, Ack: peer, Window: 10})
		l.in(seg.Seg{Seq: peer - 2, Ack: own + 11, Flags: 16, Window: 4, Data: []byte("??abcde")}, Out{Flags: 16, Seq: own + 12, Ack: peer + 11, Window: 0})
		l.state(3)
		l.places(12, 12, 12)
		l.read("abcdefghij", Out{Flags: 16, Seq: own + 12, Ack: peer + 11, Window: 10})
	}
}

// What comes with the SYN counts for nothing.
func TestP221DataOfTheSYN(t *testing.T) {
	x, out, e := Accept(iss, seg.Seg{Seq: irs, Flags: 2 | 8 | 32, Data: []byte("early")}, 100, 300)
	l := line{t, x}
	if e != api.OK {
		t.Fatal(e)
	}
	l.sent("Accept", out, []Out{{Flags: 18, Seq: iss, Ack: irs + 1, Window: 300, MSS: 100}})
	l.in(from(0, 0, 50, "later"))
	l.read("later")
}

func TestP222NothingInState0(t *testing.T) {
	l := reach(t, 0)
	for flags := range 64 {
		for place := -2; place < 3; place++ {
			l.in(flagged(from(place, 0, 50, ""), flags))
			l.in(flagged(from(place, 0, 50, "abc"), flags))
		}
	}
	l.state(0)
	l.read("")
}

// A segment without flags tells whether it fits: it is passed over if it does, and is answered if it doesn't.
func TestP222Fits(t *testing.T) {
	for state := 1; state <= 8; state++ {
		for place := -12; place <= 305; place++ {
			for _, n := range []int{0, 1, 2, 9} {
				l := reach(t, state)
				una, nxt, end := l.x.Places()
				expected := 0
				if l.x.Done() {
					expected = 1
				}
				first, last := place-expected, place-expected+n-1
				fits := first >= 0 && first < 300 || n > 0 && last >= 0 && last < 300
				s := flagged(from(place, 0, 50, "abcdefghi"[:n]), 8)
				if fits {
					l.in(s)
				} else {
					l.in(s, plainAck(nxt, expected, 300))
				}
				// One that only resets is passed over just where it doesn't fit.
				if s.Flags = 4; !fits {
					l.in(s)
					l.state(state)
				} else if first != 0 {
					l.in(s, plainAck(nxt, expected, 300))
					l.state(state)
				} else {
					l.in(s)
					l.state(0)
				}
				l.places(una, nxt, end)
				l.read("")
			}
		}
	}
}

// FIN and SYN take a place each.
func TestP222FitsByFINAndSYN(t *testing.T) {
	l := opened(t, 100, 4, 50)
	bare, one, two := from(-1, 0, 50, ""), from(-1, 0, 50, "a"), from(-2, 0, 50, "a")
	l.in(flagged(bare, 1), plainAck(0, 0, 4))
	l.in(flagged(one, 0), plainAck(0, 0, 4))
	l.in(flagged(one, 1))
	l.in(flagged(two, 1), plainAck(0, 0, 4))
	// What only resets is answered where it fits.
	l.in(flagged(bare, 4))
	l.in(flagged(bare, 5))
	l.in(flagged(bare, 6))
	l.in(flagged(bare, 7), plainAck(0, 0, 4))
	l.in(flagged(one, 4))
	l.in(flagged(one, 6), plainAck(0, 0, 4))
	l.in(flagged(two, 6))
	l.in(flagged(two, 7), plainAck(0, 0, 4))
	// A segment all around the window fits with neither end.
	l.in(flagged(from(-1, 0, 50, "abcdef"), 0), plainAck(0, 0, 4))
	l.in(flagged(from(-1, 0, 50, "abcde"), 0))
	l.in(flagged(from(0, 0, 50, "abcdef"), 0))
	l.state(2)
}

func TestP222FitsWithoutAWindow(t *testing.T) {
	l := opened(t, 100, 3, 50)
	l.in(from(0, 0, 50, "abc"))
	l.in(flagged(from(3, 0, 50, ""), 0))
	l.in(flagged(from(2, 0, 50, ""), 0), plainAck(0, 3, 0))
	l.in(flagged(from(4, 0, 50, ""), 0), plainAck(0, 3, 0))
	l.in(flagged(from(3, 0, 50, "d"), 0), plainAck(0, 3, 0))
	l.in(flagged(from(2, 0, 50, "c"), 0), plainAck(0, 3, 0))
	l.in(flagged(from(3, 0, 50, ""), 1), plainAck(0, 3, 0))
	l.in(flagged(from(3, 0, 50, ""), 5))
	l.state(2)
	// What doesn't fit acknowledges nothing, either.
	l.write(5, part(24, 0, 5, 3, 0))
	l.in(from(3, 5, 50, "d"), plainAck(5, 3, 0))
	l.places(0, 5, 5)
	l.in(from(3, 5, 50, ""))
	l.places(5, 5, 5)
	l.in(flagged(from(3, 0, 50, ""), 4))
	l.state(0)
	l.read("abc")
}

// In state 8 a FIN that comes again lets it rest again; what else comes doesn't.
func TestP222RestsAgain(t *testing.T) {
	old := flagged(from(0, 1, 50, ""), 17)
	l := reach(t, 8)
	for range 5 {
		l.silent(7)
		l.in(old, plainAck(1, 1, 300))
		l.state(8)
	}
	l.silent(7)
	l.in(flagged(old, 16), plainAck(1, 1, 300))
	l.in(flagged(old, 21))
	l.in(from(1, 1, 50, ""))
	l.in(flagged(from(1, 1, 50, ""), 17))
	l.state(8)
	l.tick()
	l.state(0)
	// In other states it rests not at all.
	for _, state := range []int{3, 6, 7} {
		l = reach(t, state)
		una, nxt, end := l.x.Places()
		l.in(old, plainAck(nxt, 1, 300))
		l.state(state)
		l.places(una, nxt, end)
	}
}

func TestP222RST(t *testing.T) {
	for state := 1; state <= 8; state++ {
		for _, flags := range []int{4, 5, 6, 7, 20, 21, 22, 23, 28, 36, 63} {
			l := reach(t, state)
			_, nxt, _ := l.x.Places()
			expected := 0
			if l.x.Done() {
				expected = 1
			}
			l.in(flagged(from(expected+1, 1, 50, "abc"), flags), plainAck(nxt, expected, 300))
			l.in(flagged(from(expected+299, 1, 50, ""), flags), plainAck(nxt, expected, 300))
			l.in(flagged(from(expected-1, 1, 50, "abc"), flags), plainAck(nxt, expected, 300))
			l.in(flagged(from(expected+300, 1, 50, ""), flags))
			l.state(state)
			l.in(flagged(from(expected, 1, 50, ""), flags))
			l.state(0)
			l.silent(100)
			l.abort()
		}
	}
}

func TestP222SYN(t *testing.T) {
	for state := 1; state <= 8; state++ {
		for _, flags := range []int{2, 3, 10, 18, 19, 34} {
			l := reach(t, state)
			una, nxt, end := l.x.Places()
			expected := 0
			if l.x.Done() {
				expected = 1
			}
			for _, place := range []int{-1, 0, 1, 300} {
				l.in(flagged(from(expected+place, 0, 50, "abc"), flags), plainAck(nxt, expected, 300))
			}
			l.state(state)
			l.places(una, nxt, end)
			l.read("")
		}
	}
}

func TestP222WithoutACK(t *testing.T) {
	for state := 1; state <= 8; state++ {
		for _, flags := range []int{0, 1, 8, 9, 32, 41} {
			l := reach(t, state)
			una, nxt, end := l.x.Places()
			expected := 0
			if l.x.Done() {
				expected = 1
			}
			l.in(flagged(from(expected, 1, 50, "abc"), flags))
			l.state(state)
			l.places(una, nxt, end)
			l.read("")
		}
	}
}

// In state 1 any ack but that of the SYN is answered by RST, and it stays.
func TestP222State1(t *testing.T) {
	l := begin(t, 100, 300)
	for _, place := range []int{-1, 1, -2, 2, 1 << 20, 1<<31 - 1, -1 << 31, -1001} {
		s := from(0, place, 50, "abc")
		l.in(s, Out{Flags: 4, Seq: s.Ack})
		l.in(flagged(s, 17), Out{Flags: 4, Seq: s.Ack})
	}
	l.state(1)
	l.silent(3)
	l.tick(Out{Flags: 18, Seq: iss, Ack: irs + 1, Window: 300, MSS: 100})
	l.in(from(0, 0, 50, ""))
	l.state(2)
	l.places(0, 0, 0)
	l.read("")
	l.silent(100)
}

// The ack that opens a connection may bring data and FIN, and the own FIN goes at once, if it was closed.
func TestP222OpenedWithMore(t *testing.T) {
	l := begin(t, 100, 300)
	l.in(from(0, 0, 50, "abc"))
	l.state(2)
	l.tick()
	l.tick(plainAck(0, 3, 297))
	l = begin(t, 100, 300)
	l.in(flagged(from(0, 0, 50, "abc"), 17), plainAck(0, 4, 297))
	l.state(3)
	l = begin(t, 100, 300)
	l.close()
	l.state(1)
	l.noClose()
	l.noWrite(1, api.ErrState)
	l.in(from(0, 0, 50, "abc"), bare(17, 0, 3, 297))
	l.state(4)
	l.silent(3)
	l.tick(bare(17, 0, 3, 297))
	l = begin(t, 100, 300)
	l.close()
	l.in(flagged(from(0, 0, 50, ""), 17), bare(17, 0, 1, 300))
	l.state(7)
}

// Tries begin anew when it opens: six more are sent behind the six of the SYN.
func TestP222OpenedTriesAnew(t *testing.T) {
	l := begin(t, 100, 300)
	for _, wait := range []int{4, 8, 16, 32, 64, 64} {
		l.silent(wait - 1)
		l.tick(Out{Flags: 18, Seq: iss, Ack: irs + 1, Window: 300, MSS: 100})
	}
	l.in(from(0, 0, 50, ""))
	l.silent(200)
	l.write(1, part(24, 0, 1, 0, 300))
	for range 6 {
		l.silent(63)
		l.tick(part(24, 0, 1, 0, 300))
	}
	l.silent(63)
	l.tick(bare(20, 1, 0, 300))
	l.state(0)
}

func TestP222AckBeyondNXT(t *testing.T) {
	l := opened(t, 100, 300, 50)
	l.write(10, part(24, 0, 10, 0, 300))
	for _, place := range []int{11, 12, 1000, 1<<31 - 1} {
		l.in(flagged(from(0, place, 9, "abc"), 17), plainAck(10, 0, 300))
	}
	l.places(0, 10, 10)
	l.state(2)
	l.read("")
	// The window was not taken, either.
	l.write(50, part(16, 10, 40, 0, 300))
	l.close()
	l.in(from(0, 50, 50, ""), part(24, 50, 10, 0, 300), bare(17, 60, 0, 300))
	l.in(from(0, 62, 50, ""), plainAck(61, 0, 300))
	l.state(4)
	l.in(from(0, 61, 50, ""))
	l.state(5)
	l.places(60, 61, 60)
}

// An ack of less than before acknowledges nothing, and its window isn't taken; its data are.
func TestP222OldAck(t *testing.T) {
	l := opened(t, 10, 300, 20)
	l.write(30, part(16, 0, 10, 0, 300), part(16, 10, 10, 0, 300))
	l.silent(3)
	l.in(from(0, 10, 10, ""))
	l.in(from(0, 9, 60, "abc"))
	l.in(from(3, 0, 60, ""))
	l.places(10, 20, 30)
	l.tick()
	l.tick(plainAck(20, 3, 297))
	l.in(from(3, 10, 20, ""), part(24, 20, 10, 3, 297))
	l.in(flagged(from(3, 5, 60, ""), 17), plainAck(30, 4, 297))
	l.state(3)
	l.read("abc")
}

// An ack is read near UNA, not near NXT or the beginning: half of all numbers are old.
func TestP222FarAcks(t *testing.T) {
	l := opened(t, 10, 300, 20)
	l.write(20, part(16, 0, 10, 0, 300), part(24, 10, 10, 0, 300))
	l.in(from(0, 5, 15, ""))
	for _, far := range []int{0, 1, 10, 14, 15, 16, 1000} {
		l.in(from(0, 5-1<<31+far, 0, ""))
		l.in(from(0, 5+1<<31-1-far, 0, ""), plainAck(20, 0, 300))
	}
	l.places(5, 20, 20)
}

// The own stream is so long that its numbers go round, and come again.
func TestP222LongStream(t *testing.T) {
	const n = 65535
	l := opened(t, 536, 300, n)
	for una := 0; una < 1<<32+3*n; una += n {
		out, e := l.x.Write(n)
		if e != api.OK || len(out) != 123 || out[0] != part(16, una, 536, 0, 300) || out[122] != part(24, una+122*536, n-122*536, 0, 300) {
			t.Fatalf("behind %d: %d are sent, %d", una, len(out), e)
		}
		l.in(from(0, una+n+1, n, ""), plainAck(una+n, 0, 300))
		l.in(from(0, una-1, 0, ""))
		l.places(una, una+n, una+n)
		l.in(from(0, una+n, n, ""))
		l.places(una+n, una+n, una+n)
	}
}

func TestP222Window(t *testing.T) {
	l := opened(t, 10, 300, 25)
	l.write(100, part(16, 0, 10, 0, 300), part(16, 10, 10, 0, 300), part(16, 20, 5, 0, 300))
	l.in(from(0, 0, 25, ""))
	l.in(from(0, 0, 26, ""), part(16, 25, 1, 0, 300))
	l.in(from(0, 0, 40, ""), part(16, 26, 10, 0, 300), part(16, 36, 4, 0, 300))
	l.in(from(0, 10, 29, ""))
	l.in(from(0, 40, 0, ""))
	l.in(from(0, 40, 65535, ""), part(16, 40, 10, 0, 300), part(16, 50, 10, 0, 300), part(16, 60, 10, 0, 300),
		part(16, 70, 10, 0, 300), part(16, 80, 10, 0, 300), part(24, 90, 10, 0, 300))
	l.places(40, 100, 100)
	l.in(from(0, 100, 10, ""))
	l.places(100, 100, 100)
}

// The third ack of the same place lets what stands there be sent again, once.
func TestP222Dups(t *testing.T) {
	l := opened(t, 10, 300, 25)
	l.write(40, part(16, 0, 10, 0, 300), part(16, 10, 10, 0, 300), part(16, 20, 5, 0, 300))
	same := from(0, 0, 25, "")
	l.in(same)
	l.in(same)
	l.in(same, part(16, 0, 10, 0, 300))
	for range 9 {
		l.in(same)
	}
	l.in(from(0, 10, 15, ""))
	same = from(0, 10, 15, "")
	l.in(same)
	l.in(same)
	l.in(same, part(16, 10, 10, 0, 300))
	// What goes ahead counts from 0 again.
	l.in(from(0, 20, 5, ""))
	l.in(from(0, 20, 5, ""))
	l.in(from(0, 20, 5, ""))
	l.in(from(0, 24, 1, ""))
	l.in(from(0, 24, 1, ""))
	l.in(from(0, 24, 1, ""))
	l.in(from(0, 24, 1, ""), part(16, 24, 1, 0, 300))
	l.places(24, 25, 40)
}

// What has data, FIN or another window, or is old, or comes where all was acknowledged, doesn't count as the same.
func TestP222DupsNotCounted(t *testing.T) {
	l := opened(t, 10, 300, 20)
	for range 5 {
		l.in(from(0, 0, 20, ""))
	}
	l.write(20, part(16, 0, 10, 0, 300), part(24, 10, 10, 0, 300))
	l.in(from(0, 0, 20, ""))
	l.in(from(0, 0, 20, ""))
	l.in(from(0, 0, 20, "a"))
	l.in(from(1, 0, 19, ""))
	l.in(from(1, 0, 20, ""))
	l.in(from(1, -1, 20, ""))
	l.in(flagged(from(5, 0, 20, ""), 17))
	l.in(flagged(from(1, 0, 20, ""), 0))
	l.in(from(1, 21, 20, ""), plainAck(20, 1, 299))
	l.in(from(1, 0, 20, ""), part(16, 0, 10, 1, 299))
	l.in(from(1, 0, 20, ""))
	l.in(from(1, 20, 20, ""))
	for range 5 {
		l.in(from(1, 20, 20, ""))
	}
}

func TestP222DupsOfTheFIN(t *testing.T) {
	for _, state := range []int{4, 6, 7} {
		l := reach(t, state)
		expected := 0
		if l.x.Done() {
			expected = 1
		}
		l.in(from(expected, 0, 50, ""))
		l.in(from(expected, 0, 50, ""))
		l.in(from(expected, 0, 50, ""), bare(17, 0, expected, 300))
		l.in(from(expected, 0, 50, ""))
		l.state(state)
	}
}

// What is sent again is as much as MSS, NXT and END let, whatever the window.
func TestP222SentAgain(t *testing.T) {
	l := opened(t, 10, 300, 25)
	l.write(7, part(24, 0, 7, 0, 300))
	l.write(9, part(24, 7, 9, 0, 300))
	l.write(20, part(16, 16, 9, 0, 300))
	l.in(from(0, 3, 1, ""))
	l.in(from(0, 3, 1, ""))
	l.in(from(0, 3, 1, ""))
	l.in(from(0, 3, 1, ""), part(16, 3, 10, 0, 300))
	// A sample of 0 ticks made the wait 2.
	l.in(from(0, 20, 0, ""))
	l.silent(1)
	l.tick(part(16, 20, 5, 0, 300))
	l.in(from(0, 20, 16, ""), part(16, 25, 10, 0, 300), part(24, 35, 1, 0, 300))
	l.close(bare(17, 36, 0, 300))
	l.in(from(0, 30, 3, ""))
	l.silent(1)
	l.tick(part(24, 30, 6, 0, 300))
	l.in(from(0, 36, 3, ""))
	l.silent(3)
	l.tick(bare(17, 36, 0, 300))
}

// The clock is told how many ticks the first byte of what is timed took, unless anything was sent again.
func TestP222Timed(t *testing.T) {
	l := opened(t, 10, 300, 25)
	l.write(10, part(24, 0, 10, 0, 300))
	l.silent(2)
	l.write(10, part(24, 10, 10, 0, 300))
	l.tick()
	l.in(from(0, 1, 25, ""))
	// 3 ticks: S 24, V 6, a wait of 9.
	l.silent(8)
	l.tick(part(16, 1, 10, 0, 300))
	l.in(from(0, 20, 25, ""))
	// Nothing was timed behind the first ack, and the wait is twice as much since.
	l.write(5, part(24, 20, 5, 0, 300))
	l.silent(17)
	l.tick(part(24, 20, 5, 0, 300))
	l.in(from(0, 25, 25, ""))
	l.write(5, part(24, 25, 5, 0, 300))
	l.in(from(0, 30, 25, ""))
	// 0 ticks: d is -3, S 21, V 6 less 1 and 3 more, a wait of 10.
	l.write(5, part(24, 30, 5, 0, 300))
	l.silent(9)
	l.tick(part(24, 30, 5, 0, 300))
}

// What the third same ack sent again isn't timed, either; the next new bytes are.
func TestP222TimedNotAfterDups(t *testing.T) {
	l := opened(t, 10, 300, 25)
	l.write(10, part(24, 0, 10, 0, 300))
	l.tick()
	l.in(from(0, 0, 25, ""))
	l.in(from(0, 0, 25, ""))
	l.in(from(0, 0, 25, ""), part(24, 0, 10, 0, 300))
	l.write(3, part(24, 10, 3, 0, 300))
	l.tick()
	l.in(from(0, 10, 25, ""))
	l.silent(3)
	// The bytes from 10 on are timed, for 5 ticks by now: at the 4th one behind the ack they are sent again.
	l.tick(part(24, 10, 3, 0, 300))
	l.in(from(0, 13, 25, ""))
	l.write(2, part(24, 13, 2, 0, 300))
	l.silent(7)
	l.tick(part(24, 13, 2, 0, 300))
}

// An ack that leads on lets the timer begin anew, or rest; one that doesn't leaves it as it is.
func TestP222Timer(t *testing.T) {
	l := opened(t, 10, 300, 30)
	l.write(30, part(16, 0, 10, 0, 300), part(16, 10, 10, 0, 300), part(24, 20, 10, 0, 300))
	l.silent(3)
	l.in(from(0, 10, 20, ""))
	// 3 ticks: a wait of 9.
	l.silent(8)
	l.in(from(0, 10, 20, ""))
	l.in(from(0, 10, 21, "abc"))
	l.in(from(3, 0, 21, ""))
	l.tick(part(16, 10, 10, 3, 297))
	l.in(from(3, 30, 30, ""))
	l.silent(100)
}

// Any ack that isn't old lets tries begin anew.
func TestP222Tries(t *testing.T) {
	for _, acked := range []int{0, 5, -1} {
		l := opened(t, 10, 300, 30)
		l.write(10, part(24, 0, 10, 0, 300))
		for _, wait := range []int{4, 8, 16, 32, 64, 64} {
			l.silent(wait - 1)
			l.tick(part(24, 0, 10, 0, 300))
		}
		l.in(from(0, acked, 30, ""))
		if acked < 0 {
			l.silent(63)
			l.tick(bare(20, 10, 0, 300))
			l.state(0)
			continue
		}
		for range 6 {
			l.silent(63)
			l.tick(part(24, acked, 10-acked, 0, 300))
		}
		l.silent(63)
		l.tick(bare(20, 10, 0, 300))
		l.state(0)
	}
}

func TestP222OwnFINAcknowledged(t *testing.T) {
	l := reach(t, 4)
	l.in(from(0, 0, 50, ""))
	l.state(4)
	l.in(from(0, 1, 50, ""))
	l.state(5)
	l.silent(200)
	l.state(5)
	l.places(0, 1, 0)
	l = reach(t, 6)
	l.in(from(1, 0, 50, ""))
	l.state(6)
	l.in(from(1, 1, 50, ""))
	l.state(8)
	l.silent(7)
	l.state(8)
	l.tick()
	l.state(0)
	l = reach(t, 7)
	l.in(from(1, 0, 50, ""))
	l.state(7)
	l.in(from(1, 1, 50, ""))
	l.state(0)
	l.silent(100)
	// Bytes ahead of the FIN are acknowledged without it.
	l = opened(t, 100, 300, 50)
	l.write(5, part(24, 0, 5, 0, 300))
	l.close(bare(17, 5, 0, 300))
	l.in(from(0, 5, 50, ""))
	l.state(4)
	l.places(5, 6, 5)
	l.in(from(0, 6, 50, ""))
	l.state(5)
	l.places(5, 6, 5)
}

// Data are kept, and acknowledged late, in the states 2, 4 and 5 alone.
func TestP222Data(t *testing.T) {
	for _, state := range []int{2, 4, 5} {
		l := reach(t, state)
		una, nxt, end := l.x.Places()
		l.in(from(0, una, 50, "abc"))
		if state == 4 {
			l.in(from(3, 1, 50, ""))
		}
		l.tick()
		l.tick(plainAck(nxt, 3, 297))
		l.silent(2)
		l.read("abc")
		l.read("")
		l.places(una, nxt, end)
	}
	for _, state := range []int{3, 6, 7, 8} {
		l := reach(t, state)
		l.in(from(1, 0, 50, "abc"))
		l.in(flagged(from(1, 0, 50, "abc"), 17))
		l.silent(3)
		l.read("")
		l.state(state)
	}
}

// The second part is acknowledged at once, with both, and the third one late again.
func TestP222EachSecondAtOnce(t *testing.T) {
	l := opened(t, 100, 300, 50)
	for i := range 5 {
		l.in(from(6*i, 0, 50, "abc"))
		l.in(from(6*i+3, 0, 50, "def"), plainAck(0, 6*i+6, 300-6*i-6))
	}
	l.in(from(30, 0, 50, "g"))
	l.tick()
	l.in(from(31, 0, 50, "h"), plainAck(0, 32, 268))
	l.silent(3)
	l.read("abcdefabcdefabcdefabcdefabcdefgh")
}

// Whatever is sent tells the ack, so that none is due any more.
func TestP222SentWithTheAck(t *testing.T) {
	l := opened(t, 100, 300, 50)
	l.in(from(0, 0, 50, "abc"))
	l.write(5, part(24, 0, 5, 3, 297))
	l.silent(2)
	// 2 ticks: a wait of 6.
	l.in(from(3, 5, 50, "def"))
	l.close(bare(17, 5, 6, 294))
	l.in(from(6, 5, 50, "g"))
	l.in(from(9, 5, 50, ""))
	l.in(from(299, 5, 50, ""))
	l.in(from(-1, 5, 50, ""), plainAck(6, 7, 293))
	l.silent(3)
	l.in(from(7, 5, 50, "h"))
	l.in(from(8, 5, 50, ""), bare(17, 5, 8, 292))
	l.in(from(8, 5, 50, "i"))
	l.tick()
	l.tick(plainAck(6, 9, 291))
}

func TestP222AtOnce(t *testing.T) {
	// Early: there is a gap ahead.
	l := opened(t, 100, 10, 50)
	l.in(from(3, 0, 50, "de"), plainAck(0, 0, 10))
	l.in(from(0, 0, 50, "a"), plainAck(0, 1, 9))
	l.in(from(1, 0, 50, "bc"))
	l.tick()
	l.tick(plainAck(0, 5, 5))
	// Again, wholly or in part.
	l.in(from(4, 0, 50, "e"), plainAck(0, 5, 5))
	l.in(from(4, 0, 50, "ef"), plainAck(0, 6, 4))
	// Beyond the room.
	l.in(from(6, 0, 50, "ghijk"), plainAck(0, 10, 0))
	l.read("abcdefghij", plainAck(0, 10, 10))
	l.in(from(10, 0, 50, "klmnopqrst"))
	l.tick()
	l.tick(plainAck(0, 20, 0))
}

func TestP222PeerFIN(t *testing.T) {
	for _, c := range []struct{ state, next int }{{2, 3}, {4, 6}, {5, 8}} {
		for _, data := range []string{"", "abc"} {
			l := reach(t, c.state)
			una, nxt, _ := l.x.Places()
			l.in(flagged(from(0, una, 50, data), 17), plainAck(nxt, len(data)+1, 300-len(data)))
			l.state(c.next)
			l.read(data)
			// It comes again, and nothing goes on.
			l.in(flagged(from(0, una, 50, data), 17), plainAck(nxt, len(data)+1, 300))
			l.state(c.next)
			if c.next == 8 {
				l.silent(7)
				l.state(8)
				l.tick()
				l.state(0)
			}
		}
	}
}

// A FIN that comes early is known, and taken once all ahead of it is there.
func TestP222EarlyFIN(t *testing.T) {
	for _, c := range []struct{ state, next int }{{2, 3}, {4, 6}, {5, 8}} {
		l := reach(t, c.state)
		una, nxt, _ := l.x.Places()
		l.in(flagged(from(3, una, 50, "de"), 17), plainAck(nxt, 0, 300))
		l.state(c.state)
		l.in(from(1, una, 50, "b"), plainAck(nxt, 0, 300))
		l.in(from(0, una, 50, "a"), plainAck(nxt, 2, 298))
		l.state(c.state)
		l.in(from(2, una, 50, "c"), plainAck(nxt, 6, 295))
		l.state(c.next)
		l.read("abcde")
		// A bare one, behind data that are missing.
		l = reach(t, c.state)
		l.in(flagged(from(3, una, 50, ""), 17))
		l.state(c.state)
		l.in(from(0, una, 50, "ab"))
		l.in(from(2, una, 50, "c"), plainAck(nxt, 4, 297))
		l.state(c.next)
	}
}

// Of two FINs the later one tells the place, and one behind what was read is expected there.
func TestP222FINsPlace(t *testing.T) {
	l := opened(t, 100, 20, 50)
	l.in(flagged(from(9, 0, 50, ""), 17))
	l.in(flagged(from(4, 0, 50, ""), 17))
	l.in(from(0, 0, 50, "abc"))
	l.read("abc")
	l.state(2)
	l.in(from(3, 0, 50, "d"), plainAck(0, 5, 19))
	l.state(3)
	l = opened(t, 100, 20, 50)
	l.in(flagged(from(4, 0, 50, ""), 17))
	l.in(flagged(from(9, 0, 50, ""), 17))
	l.in(from(0, 0, 50, "abcd"))
	l.state(2)
	l.in(from(4, 0, 50, "efghi"), plainAck(0, 10, 11))
	l.state(3)
	l.read("abcdefghi")
}

// A FIN whose data found no room isn't taken before those come again.
func TestP222FINBeyondTheRoom(t *testing.T) {
	l := opened(t, 100, 4, 50)
	l.in(flagged(from(0, 0, 50, "abcdef"), 17), plainAck(0, 4, 0))
	l.state(2)
	l.in(flagged(from(4, 0, 50, "ef"), 17), plainAck(0, 4, 0))
	l.read("abcd", plainAck(0, 4, 4))
	l.in(flagged(from(4, 0, 50, "ef"), 17), plainAck(0, 7, 2))
	l.state(3)
	l.read("ef")
}

// Behind data comes the push: own bytes that the window now lets bring the ack.
func TestP222Pushes(t *testing.T) {
	l := opened(t, 10, 300, 0)
	l.write(25)
	l.in(from(0, 0, 15, "abc"), part(16, 0, 10, 3, 297), part(16, 10, 5, 3, 297))
	l.in(flagged(from(3, 15, 10, ""), 17), part(24, 15, 10, 4, 297))
	l.state(3)
	l.close(bare(17, 25, 4, 297))
	l.state(7)
	l.in(from(4, 26, 10, ""))
	l.state(0)
}

func TestP223NothingInState0(t *testing.T) {
	reach(t, 0).silent(300)
}

// The ticks of the SYN that nobody answers, from the first to the last one.
func TestP223SYNAgain(t *testing.T) {
	l := begin(t, 100, 300)
	for _, wait := range []int{4, 8, 16, 32, 64, 64} {
		l.silent(wait - 1)
		l.state(1)
		l.tick(Out{Flags: 18, Seq: iss, Ack: irs + 1, Window: 300, MSS: 100})
	}
	l.silent(63)
	l.tick(bare(20, 0, 0, 300))
	l.state(0)
	l.silent(300)
}

func TestP223GivenUp(t *testing.T) {
	for _, state := range []int{4, 6, 7} {
		l := reach(t, state)
		expected := 0
		if l.x.Done() {
			expected = 1
		}
		for _, wait := range []int{4, 8, 16, 32, 64, 64} {
			l.silent(wait - 1)
			l.tick(bare(17, 0, expected, 300))
			l.state(state)
		}
		l.silent(63)
		l.tick(bare(20, 1, expected, 300))
		l.state(0)
		l.silent(300)
	}
}

// Nothing is waited for in the states in which all was acknowledged.
func TestP223Rests(t *testing.T) {
	for _, state := range []int{2, 3, 5} {
		l := reach(t, state)
		l.silent(1000)
		l.state(state)
	}
	l := reach(t, 8)
	l.silent(7)
	l.state(8)
	l.tick()
	l.state(0)
}

// An ack that became due at the tick goes with what is sent again, or with the RST.
func TestP223LateAck(t *testing.T) {
	l := opened(t, 10, 300, 50)
	l.write(5, part(24, 0, 5, 0, 300))
	l.silent(2)
	l.in(from(0, 0, 50, "abc"))
	l.tick()
	l.tick(part(24, 0, 5, 3, 297))
	l.silent(7)
	l.tick(part(24, 0, 5, 3, 297))
	for range 4 {
		l.in(from(3, -1, 50, ""))
	}
	for _, wait := range []int{16, 32, 64, 64} {
		l.silent(wait - 1)
		l.tick(part(24, 0, 5, 3, 297))
	}
	l.silent(62)
	l.in(from(3, -1, 50, "d"))
	l.tick()
	l.tick(bare(20, 5, 4, 296))
	l.state(0)
	l.read("abcd")
}

// With a window of 0 a byte asks for it, and is sent again like any other one.
func TestP223Asks(t *testing.T) {
	l := opened(t, 10, 300, 0)
	l.write(0)
	l.silent(50)
	l.write(3)
	l.places(0, 0, 3)
	l.silent(3)
	l.tick(part(16, 0, 1, 0, 300))
	l.places(0, 1, 3)
	l.silent(7)
	l.tick(part(16, 0, 1, 0, 300))
	l.places(0, 1, 3)
	l.in(from(0, 0, 0, ""))
	l.silent(15)
	l.tick(part(16, 0, 1, 0, 300))
	l.in(from(0, 1, 0, ""))
	// The wait of what asks was 32 by then.
	l.silent(31)
	l.tick(part(16, 1, 1, 0, 300))
	l.in(from(0, 2, 0, ""))
	l.silent(63)
	l.tick(part(24, 2, 1, 0, 300))
	l.in(from(0, 3, 0, ""))
	l.silent(200)
	l.places(3, 3, 3)
}

// A byte that asked is no time to go by; the FIN goes whatever the window.
func TestP223AskedAndClosed(t *testing.T) {
	l := opened(t, 10, 300, 0)
	l.write(2)
	l.close()
	l.state(2)
	l.silent(3)
	l.tick(part(16, 0, 1, 0, 300))
	l.in(from(0, 1, 0, ""))
	l.silent(7)
	l.tick(part(24, 1, 1, 0, 300))
	l.state(2)
	l.in(from(0, 2, 0, ""), bare(17, 2, 0, 300))
	l.state(4)
	l.silent(15)
	l.tick(bare(17, 2, 0, 300))
	l.in(from(0, 3, 0, ""))
	l.state(5)
}

// The timer that rests begins with the first bytes, and goes on when others follow.
func TestP223TimerBegins(t *testing.T) {
	l := opened(t, 10, 300, 50)
	l.silent(100)
	l.write(5, part(24, 0, 5, 0, 300))
	l.silent(3)
	l.write(5, part(24, 5, 5, 0, 300))
	l.tick(part(24, 0, 10, 0, 300))
	l.silent(6)
	l.close(bare(17, 10, 0, 300))
	l.silent(1)
	l.tick(part(24, 0, 10, 0, 300))
}

func TestP224Write(t *testing.T) {
	l := opened(t, 10, 300, 25)
	for _, n := range []int{-1, -2, math.MinInt, math.MinInt32, 1048577, 1 << 21, 1 << 32, 1<<32 + 1, math.MaxInt} {
		l.noWrite(n, api.ErrArg)
	}
	l.write(0)
	l.places(0, 0, 0)
	l.write(10, part(24, 0, 10, 0, 300))
	l.write(11, part(16, 10, 10, 0, 300), part(24, 20, 1, 0, 300))
	l.write(5, part(16, 21, 4, 0, 300))
	l.write(1048576)
	l.places(0, 25, 26+1048576)
	l.close()
	for _, n := range []int{0, 1, -1, math.MinInt, 1048577, math.MaxInt} {
		l.noWrite(n, api.ErrState)
	}
	l.noClose()
	l.state(2)
}

func TestP224WriteStates(t *testing.T) {
	for _, state := range []int{0, 1, 4, 5, 6, 7, 8} {
		l := reach(t, state)
		for _, n := range []int{0, 1, -1, 1048577, math.MaxInt, math.MinInt} {
			l.noWrite(n, api.ErrState)
		}
		l.state(state)
	}
	l := reach(t, 3)
	l.write(5, part(24, 0, 5, 1, 300))
	l.noWrite(-1, api.ErrArg)
	l.close(bare(17, 5, 1, 300))
	l.state(7)
}

func TestP224CloseStates(t *testing.T) {
	for _, state := range []int{0, 4, 5, 6, 7, 8} {
		reach(t, state).noClose()
	}
	for state, want := range map[int]int{2: 4, 3: 7} {
		l := reach(t, state)
		l.close(bare(17, 0, state-2, 300))
		l.state(want)
		l.places(0, 1, 0)
		l.noClose()
	}
	l := reach(t, 1)
	l.close()
	l.state(1)
	l.noClose()
	l.abort(bare(20, 0, 0, 300))
	l.noClose()
}

func TestP224Read(t *testing.T) {
	l := opened(t, 100, 6, 50)
	l.read("")
	l.in(from(0, 0, 50, "abcde"))
	l.read("abcde")
	l.tick()
	l.tick(plainAck(0, 5, 6))
	l.in(from(7, 0, 50, "hi"), plainAck(0, 5, 6))
	l.read("")
	l.in(from(5, 0, 50, "fg"))
	l.read("fghi")
	l.tick()
	l.tick(plainAck(0, 9, 6))
	// Who was told a window of 0 is told that there is one again, once.
	l.in(from(9, 0, 50, "jklmno"))
	l.read("jklmno", plainAck(0, 15, 6))
	l.silent(3)
	l.read("")
}

// Nobody is told in state 0, but what came is read all the same.
func TestP224ReadInState0(t *testing.T) {
	l := opened(t, 100, 3, 50)
	l.in(from(0, 0, 50, "abc"))
	l.abort(bare(20, 0, 3, 0))
	l.read("abc")
	l.read("")
	l = opened(t, 100, 3, 50)
	l.in(flagged(from(0, 0, 50, "ab"), 17), plainAck(0, 3, 1))
	l.close(bare(17, 0, 3, 1))
	l.in(from(3, 1, 50, ""))
	l.state(0)
	l.read("ab")
	if !l.x.Done() {
		t.Error("the peer isn't done any more")
	}
}

// In each other state the window is told again.
func TestP224ReadTellsTheWindow(t *testing.T) {
	for _, c := range []struct {
		closed bool
		acked  int
		fin    bool
		state  int
	}{{false, 0, false, 2}, {true, 0, false, 4}, {true, 1, false, 5}} {
		l := opened(t, 100, 3, 50)
		nxt := 0
		if c.closed {
			nxt = 1
			l.close(bare(17, 0, 0, 3))
		}
		l.in(from(0, c.acked, 50, "abc"))
		l.state(c.state)
		l.read("abc", plainAck(nxt, 3, 3))
	}
	for _, state := range []int{3, 6, 7, 8} {
		l := opened(t, 100, 3, 50)
		nxt := 0
		if state == 6 || state == 8 {
			nxt = 1
			l.close(bare(17, 0, 0, 3))
		}
		// The FIN is known ahead of the last byte.
		l.in(flagged(from(1, 0, 50, "bc"), 17), plainAck(nxt, 0, 3))
		l.in(from(0, 0, 50, "a"), plainAck(nxt, 4, 0))
		if state == 7 {
			nxt = 1
			l.close(bare(17, 0, 4, 0))
		}
		if state == 8 {
			l.in(from(4, 1, 50, ""))
		}
		l.state(state)
		l.read("abc", plainAck(nxt, 4, 3))
	}
}

func TestP224Abort(t *testing.T) {
	for state := 1; state <= 8; state++ {
		l := reach(t, state)
		_, nxt, _ := l.x.Places()
		expected := 0
		if l.x.Done() {
			expected = 1
		}
		l.abort(bare(20, nxt, expected, 300))
		l.state(0)
		l.abort()
		l.silent(100)
		l.in(from(expected, nxt, 50, "abc"))
		l.noWrite(1, api.ErrState)
		l.noClose()
	}
	l := opened(t, 10, 300, 15)
	l.write(30, part(16, 0, 10, 0, 300), part(16, 10, 5, 0, 300))
	l.in(from(0, 4, 10, "abc"))
	l.abort(bare(20, 15, 3, 297))
	l.places(4, 15, 30)
	l.silent(5)
	l.read("abc")
}

func TestP224Nil(t *testing.T) {
	l := line{t, nil}
	for flags := range 64 {
		l.in(flagged(from(0, 0, 50, "abc"), flags))
	}
	l.silent(3)
	for _, n := range []int{0, 1, -1, 1048577} {
		l.noWrite(n, api.ErrNil)
	}
	if out, e := l.x.Close(); len(out) != 0 || e != api.ErrNil {
		t.Errorf("Close: %+v, %d", out, e)
	}
	l.read("")
	l.abort()
	l.state(0)
	l.places(0, 0, 0)
	if l.x.Done() {
		t.Error("done")
	}
}

func TestR1NoCallPanics(t *testing.T) {
	far := []int{math.MinInt, math.MinInt32, -1, 0, 1, 63, 64, 1 << 20, math.MaxInt32, math.MaxInt}
	long := make([]byte, 70000)
	for state := range 9 {
		for _, flags := range far {
			for _, number := range []uint32{0, 1, irs, irs + 1, iss + 1, 1<<31 - 1, 1 << 31, 1<<32 - 1} {
				l := reach(t, state)
				l.x.In(seg.Seg{Flags: flags, Seq: number, Ack: number, Window: 65535, MSS: flags, Data: long})
				l.x.In(seg.Seg{Flags: flags | 16, Seq: irs + 1, Ack: number, Data: long})
				l.x.In(seg.Seg{Flags: 16, Seq: number, Ack: iss + 1, Data: long})
				l.x.Tick()
				l.x.Read()
			}
		}
	}
	zero := &TCB{}
	zero.In(from(0, 0, 50, "abc"))
	zero.Tick()
	zero.Write(5)
	zero.Close()
	zero.Read()
	zero.Abort()
}

// The longest list that a call sends.
func TestP224WriteOfAllThatAWindowLets(t *testing.T) {
	l := opened(t, 1, 2048, 65535)
	full := string(make([]byte, 2047))
	l.in(from(0, 0, 65535, full))
	out, e := l.x.Write(1048576)
	if e != api.OK || len(out) != 65535 {
		t.Fatalf("%d, %d", len(out), e)
	}
	for i, o := range out {
		if o != part(16, i, 1, 2047, 1) {
			t.Fatalf("%d: %+v", i, o)
		}
	}
}

// What is told is the caller's, and what is handed in stays as it is.
func TestR4Memory(t *testing.T) {
	l := opened(t, 10, 300, 30)
	data := []byte("abcdef")
	s := from(0, 0, 30, "")
	s.Data = data
	l.in(s)
	if string(data) != "abcdef" {
		t.Fatalf("it became %q", data)
	}
	clear(data)
	first, _ := l.x.Write(20)
	want := slices.Clone(first)
	second, _ := l.x.Write(20)
	clear(second[:cap(second)])
	if !slices.Equal(first, want) {
		t.Fatalf("what was told became %+v", first)
	}
	clear(first[:cap(first)])
	b, _ := l.x.Read()
	if string(b) != "abcdef" {
		t.Fatalf("Read: %q", b)
	}
	l.in(from(6, 20, 10, "ghi"))
	if string(b) != "abcdef" {
		t.Fatalf("what was read became %q", b)
	}
	clear(b[:cap(b)])
	l.read("ghi")
	// Two connections have nothing together.
	other := opened(t, 10, 300, 30)
	other.in(from(0, 0, 30, "xyz"))
	l.read("")
	other.read("xyz")
}
