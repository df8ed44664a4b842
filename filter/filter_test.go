package filter

import (
	"bytes"
	"math"
	"slices"
	"testing"

	"pantler/api"
)

// badCodes are codes of no step.
var badCodes = []int{-1, -2, -8, 9, 10, 16, 255, 256, 257, 1 << 16, 1<<32 + 7, math.MaxInt32, math.MaxInt, math.MinInt32, math.MinInt}

// badJumps are no jumps, wherever they stand.
var badJumps = []int{-1, -2, -255, -256, 256, 257, 1 << 16, 1 << 32, 1<<32 + 1, math.MaxInt32, math.MaxInt - 1, math.MaxInt, math.MinInt32, math.MinInt, math.MinInt + 1}

// edges are numbers at the ends of their kinds.
var edges = []uint32{0, 1, 2, 127, 128, 255, 256, 1<<15 - 1, 1 << 15, 1<<16 - 1, 1 << 16, 1<<31 - 1, 1 << 31, 1<<31 + 1, 1<<32 - 2, 1<<32 - 1}

// checkMay asks whether the program may be.
func checkMay(t *testing.T, p []Op, want api.Errno) {
	t.Helper()
	if e := Check(p); e != want {
		t.Fatalf("Check(%v): %d; not %d", p, e, want)
	}
	if want != api.OK {
		checkNoRun(t, p, nil, want)
	}
}

// checkRun runs what must go well.
func checkRun(t *testing.T, p []Op, packet []byte, want uint32) {
	t.Helper()
	if n, e := Run(p, packet); n != want || e != api.OK {
		t.Fatalf("Run(%v, %x): %d, %d; not %d", p, packet, n, e, want)
	}
}

// checkNoRun runs what must go wrong.
func checkNoRun(t *testing.T, p []Op, packet []byte, f api.Errno) {
	t.Helper()
	if n, e := Run(p, packet); n != 0 || e != f {
		t.Fatalf("Run(%v) of %d bytes: %d, %d; not %d", p, len(packet), n, e, f)
	}
}

// counted tells a packet of n bytes, no two neighbours of which are the same.
func counted(n int) []byte {
	b := make([]byte, n)
	for i := range b {
		b[i] = byte(i*37 + i>>8 + 1)
	}
	return b
}

// with tells bytes of which one is another.
func with(b []byte, at int, x byte) []byte {
	b = bytes.Clone(b)
	b[at] = x
	return b
}

// ending tells a program of n steps that ends with its last one.
func ending(n int) []Op {
	p := make([]Op, n)
	for i := range p {
		p[i] = Op{Code: 3, K: 1<<32 - 1}
	}
	p[n-1] = Op{Code: 7, K: 5}
	return p
}

// holding tells steps and a packet on which they let A become a.
func holding(a uint32) ([]Op, []byte) {
	return []Op{{Code: 2}}, []byte{byte(a >> 24), byte(a >> 16), byte(a >> 8), byte(a)}
}

func TestP71Example(t *testing.T) {
	for _, packet := range [][]byte{nil, {}, {1}, counted(1024)} {
		checkRun(t, []Op{{Code: 7, K: 5}}, packet, 5)
	}
}

func TestP71CheckHowManySteps(t *testing.T) {
	checkMay(t, nil, api.ErrProg)
	checkMay(t, []Op{}, api.ErrProg)
	for n := 1; n <= 64; n++ {
		checkMay(t, ending(n), api.OK)
		checkRun(t, ending(n), nil, 5)
	}
	for _, n := range []int{65, 66, 128, 255, 256, 257, 1 << 16} {
		checkMay(t, ending(n), api.ErrProg)
	}
}

func TestP71CheckCodes(t *testing.T) {
	for code := 0; code <= 8; code++ {
		checkMay(t, []Op{{Code: code}, {Code: 7}}, api.OK)
		checkMay(t, []Op{{Code: code}, {Code: 8}}, api.OK)
	}
	for _, code := range badCodes {
		checkMay(t, []Op{{Code: code}, {Code: 7}}, api.ErrProg)
		checkMay(t, []Op{{Code: 7}, {Code: code}, {Code: 7}}, api.ErrProg)
		checkMay(t, []Op{{Code: 7}, {Code: code}}, api.ErrProg)
		checkMay(t, []Op{{Code: code}}, api.ErrProg)
	}
}

func TestP71CheckTheLastStep(t *testing.T) {
	for code := 0; code <= 8; code++ {
		want := api.ErrProg
		if code == 7 || code == 8 {
			want = api.OK
		}
		checkMay(t, []Op{{Code: code}}, want)
		checkMay(t, []Op{{Code: 7}, {Code: code}}, want)
		p := ending(64)
		p[63] = Op{Code: code}
		checkMay(t, p, want)
	}
}

func TestP71CheckJumps(t *testing.T) {
	// Each step that asks, and each jump of it, in programs of each length.
	for n := 1; n <= 64; n++ {
		for at := range n {
			for _, code := range []int{5, 6} {
				for jump := 0; jump <= 66; jump++ {
					want := api.OK
					if at+1+jump >= n {
						want = api.ErrProg
					}
					p := ending(n)
					p[at] = Op{Code: code, T: jump}
					checkMay(t, p, want)
					p[at] = Op{Code: code, F: jump}
					checkMay(t, p, want)
				}
			}
		}
	}
}

func TestP71CheckWhatIsNoJump(t *testing.T) {
	for _, jump := range append([]int{64, 254, 255}, badJumps...) {
		for _, code := range []int{5, 6} {
			checkMay(t, []Op{{Code: code, T: jump}, {Code: 7}}, api.ErrProg)
			checkMay(t, []Op{{Code: code, F: jump}, {Code: 7}}, api.ErrProg)
			checkMay(t, []Op{{Code: 7}, {Code: 7}, {Code: code, T: 0, F: jump}, {Code: 7}}, api.ErrProg)
			checkMay(t, []Op{{Code: 7}, {Code: 7}, {Code: code, T: jump, F: 0}, {Code: 7}}, api.ErrProg)
		}
	}
}

func TestP71CheckJumpsOfStepsThatAskNothing(t *testing.T) {
	for _, code := range []int{0, 1, 2, 3, 4, 7, 8} {
		// They lead nowhere, so they don't lead beyond the last step.
		for _, jump := range []int{0, 1, 2, 63, 64, 254, 255} {
			checkMay(t, []Op{{Code: code, T: jump}, {Code: 8, F: jump}}, api.OK)
			checkMay(t, []Op{{Code: code, F: jump}, {Code: 7, T: jump}}, api.OK)
		}
		// A step has jumps from 0 to 255, whatever it does.
		for _, jump := range badJumps {
			checkMay(t, []Op{{Code: code, T: jump}, {Code: 7}}, api.ErrProg)
			checkMay(t, []Op{{Code: code, F: jump}, {Code: 7}}, api.ErrProg)
		}
	}
	for _, jump := range badJumps {
		checkMay(t, []Op{{Code: 7, T: jump}}, api.ErrProg)
		checkMay(t, []Op{{Code: 8, F: jump}}, api.ErrProg)
	}
}

func TestP71JumpsOfStepsThatAskNothingArentTaken(t *testing.T) {
	packet := []byte{1, 2, 3, 4}
	for code, want := range []uint32{1, 0x0102, 0x01020304, 0, 0} {
		p := []Op{{Code: code, T: 1, F: 1}, {Code: 8}, {Code: 7, K: 99}}
		checkRun(t, p, packet, want)
	}
}

func TestP71LoadEachPlace(t *testing.T) {
	for length := range 40 {
		packet := counted(length)
		for code, size := range []int{1, 2, 4} {
			for place := range length + 6 {
				var want uint32
				if place+size <= length {
					for i := range size {
						want = want*256 + uint32(packet[place+i])
					}
				}
				checkRun(t, []Op{{Code: code, K: uint32(place)}, {Code: 8}}, packet, want)
			}
		}
	}
}

func TestP71LoadOfABigPacket(t *testing.T) {
	packet := counted(1024)
	checkRun(t, []Op{{Code: 0, K: 1023}, {Code: 8}}, packet, uint32(packet[1023]))
	checkRun(t, []Op{{Code: 1, K: 1022}, {Code: 8}}, packet, uint32(packet[1022])<<8+uint32(packet[1023]))
	checkRun(t, []Op{{Code: 0, K: 300}, {Code: 8}}, packet, uint32(packet[300]))
	for code, place := range []uint32{1024, 1023, 1021} {
		checkRun(t, []Op{{Code: code, K: place}, {Code: 7, K: 9}}, packet, 0)
	}
}

func TestP71LoadOfHighBytes(t *testing.T) {
	packet := []byte{0xff, 0xfe, 0x80, 0x00, 0xff}
	for code, want := range []uint32{0xff, 0xfffe, 0xfffe8000} {
		checkRun(t, []Op{{Code: code}, {Code: 8}}, packet, want)
	}
	checkRun(t, []Op{{Code: 2, K: 1}, {Code: 8}}, packet, 0xfe8000ff)
	checkRun(t, []Op{{Code: 1, K: 2}, {Code: 8}}, packet, 0x8000)
}

func TestP71LoadOfWhatIsntThere(t *testing.T) {
	// Places at the end of their kind go round, with the bytes behind them, to those that are there.
	for _, packet := range [][]byte{nil, {}, {7}, counted(4), counted(1024)} {
		for code := range 3 {
			for _, place := range []uint32{1024, 1025, 1 << 16, 1 << 31, 1<<31 - 1, 1<<32 - 5, 1<<32 - 4, 1<<32 - 3, 1<<32 - 2, 1<<32 - 1} {
				// It ends there, whatever comes.
				checkRun(t, []Op{{Code: code, K: place}, {Code: 7, K: 9}}, packet, 0)
			}
		}
	}
	for code, size := range []int{1, 2, 4} {
		packet := counted(size + 3)
		// It ends with 0, whatever A was.
		checkRun(t, []Op{{Code: 0}, {Code: code, K: 4}, {Code: 8}}, packet, 0)
		checkRun(t, []Op{{Code: 0}, {Code: code, K: 4}, {Code: 7, K: 9}}, packet, 0)
		checkRun(t, []Op{{Code: 0}, {Code: code, K: 3}, {Code: 7, K: 9}}, packet, 9)
	}
}

func TestP71LoadTakesThePlaceOfA(t *testing.T) {
	packet := counted(8)
	checkRun(t, []Op{{Code: 2}, {Code: 0, K: 5}, {Code: 8}}, packet, uint32(packet[5]))
	checkRun(t, []Op{{Code: 2}, {Code: 1, K: 5}, {Code: 8}}, packet, uint32(packet[5])<<8+uint32(packet[6]))
}

func TestP71AIs0AtFirst(t *testing.T) {
	checkRun(t, []Op{{Code: 8}}, counted(9), 0)
	checkRun(t, []Op{{Code: 5, T: 1}, {Code: 7, K: 1}, {Code: 7, K: 2}}, counted(9), 2)
	checkRun(t, []Op{{Code: 6, T: 1}, {Code: 7, K: 1}, {Code: 7, K: 2}}, counted(9), 1)
	// It is so at each run.
	p := []Op{{Code: 3, K: 1<<32 - 1}, {Code: 5, F: 2}, {Code: 2}, {Code: 8}, {Code: 7, K: 77}}
	for range 3 {
		checkRun(t, p, []byte{0, 0, 1, 2}, 258)
	}
}

func TestP71Mask(t *testing.T) {
	for _, a := range edges {
		for _, k := range edges {
			p, packet := holding(a)
			checkRun(t, append(p, Op{Code: 3, K: k}, Op{Code: 8}), packet, a&k)
		}
	}
}

func TestP71Shift(t *testing.T) {
	counts := append([]uint32{1<<32 - 32, 1<<32 - 31, 1<<31 + 1, 256 + 1, 1<<16 + 1}, edges...)
	for k := range uint32(70) {
		counts = append(counts, k)
	}
	for _, a := range append([]uint32{0xf1f2f3f4, 0x12345678}, edges...) {
		for _, k := range counts {
			want := a
			for range min(k, 32) {
				want /= 2
			}
			p, packet := holding(a)
			checkRun(t, append(p, Op{Code: 4, K: k}, Op{Code: 8}), packet, want)
		}
	}
}

func TestP71EqualAndAbove(t *testing.T) {
	ends := []Op{{Code: 7, K: 10}, {Code: 7, K: 11}, {Code: 7, K: 12}, {Code: 7, K: 13}}
	for _, a := range edges {
		for _, k := range edges {
			for jumps := range 16 {
				yes, no := jumps/4, jumps%4
				p, packet := holding(a)
				p = append(append(p, Op{Code: 5, K: k, T: yes, F: no}), ends...)
				checkRun(t, p, packet, uint32(10+chosen(a == k, yes, no)))
				p[1].Code = 6
				checkRun(t, p, packet, uint32(10+chosen(int64(a) > int64(k), yes, no)))
			}
		}
	}
}

// chosen tells one of two numbers.
func chosen(first bool, a, b int) int {
	if first {
		return a
	}
	return b
}

func TestP71AskingLeavesA(t *testing.T) {
	for _, a := range edges {
		for _, code := range []int{5, 6} {
			p, packet := holding(a)
			checkRun(t, append(p, Op{Code: code, K: 128}, Op{Code: 8}), packet, a)
		}
	}
}

func TestP71JumpsUpToTheLastStep(t *testing.T) {
	for jump := range 63 {
		p := ending(64)
		for i := 1; i < 63; i++ {
			p[i] = Op{Code: 7, K: uint32(100 + i)}
		}
		p[63] = Op{Code: 7, K: 163}
		p[0] = Op{Code: 5, T: jump}
		checkRun(t, p, nil, uint32(101+jump))
		p[0] = Op{Code: 6, F: jump}
		checkRun(t, p, nil, uint32(101+jump))
	}
}

func TestP71Ends(t *testing.T) {
	for _, k := range edges {
		checkRun(t, []Op{{Code: 7, K: k}}, nil, k)
		// K says nothing where the program ends with A.
		checkRun(t, []Op{{Code: 8, K: k}}, nil, 0)
		p, packet := holding(k)
		checkRun(t, append(p, Op{Code: 8, K: 3}), packet, k)
		checkRun(t, append(p, Op{Code: 7, K: 3}), packet, 3)
		// What comes behind isn't done.
		checkRun(t, append(p, Op{Code: 8}, Op{Code: 7, K: 4}), packet, k)
		checkRun(t, append(p, Op{Code: 7, K: k}, Op{Code: 7, K: 4}), packet, k)
	}
}

func TestP71RunErrors(t *testing.T) {
	good, bad := []Op{{Code: 7, K: 5}}, []Op{{Code: 0}}
	for _, n := range []int{0, 1, 1023, 1024} {
		checkRun(t, good, counted(n), 5)
		checkNoRun(t, bad, counted(n), api.ErrProg)
	}
	for _, n := range []int{1025, 1026, 2048, 1 << 16, 1<<16 + 1} {
		checkNoRun(t, good, make([]byte, n), api.ErrLong)
		// The program is looked at first.
		checkNoRun(t, bad, make([]byte, n), api.ErrProg)
		checkNoRun(t, nil, make([]byte, n), api.ErrProg)
	}
	// A fault is told, though nothing would come to it.
	checkNoRun(t, []Op{{Code: 7, K: 5}, {Code: 9}, {Code: 7}}, nil, api.ErrProg)
	checkNoRun(t, []Op{{Code: 7, K: 5}, {Code: 5, T: 1}, {Code: 7}}, nil, api.ErrProg)
}

func TestP71WhatIsHandedInStays(t *testing.T) {
	p := []Op{{Code: 1, K: 3}, {Code: 3, K: 0xfff}, {Code: 4, K: 2}, {Code: 5, K: 9, T: 1}, {Code: 6, K: 7}, {Code: 8}}
	packet := counted(60)
	q, same := slices.Clone(p), bytes.Clone(packet)
	for range 2 {
		Check(p)
		Run(p, packet)
		if !slices.Equal(p, q) || !bytes.Equal(packet, same) {
			t.Fatalf("they became %v, %x", p, packet)
		}
	}
}

// segment tells the least packet that Host(port) wants.
func segment(port uint16) []byte {
	b := make([]byte, 38)
	b[12], b[14], b[23] = 8, 69, 6
	b[36], b[37] = byte(port>>8), byte(port)
	return b
}

func TestP72HostOfEachPort(t *testing.T) {
	for port := range 1 << 16 {
		p := Host(uint16(port))
		if e := Check(p); e != api.OK {
			t.Fatalf("Check(Host(%d)): %d", port, e)
		}
		checkRun(t, p, segment(uint16(port)), 1)
		for _, other := range []uint16{uint16(port + 1), uint16(port - 1), uint16(port) ^ 0x100, uint16(port) ^ 0x8000, ^uint16(port)} {
			checkRun(t, p, segment(other), 0)
		}
	}
}

func TestP72HostOfEachByte(t *testing.T) {
	for _, port := range []uint16{0, 1, 80, 255, 256, 8080, 0x5050, 65535} {
		p, packet := Host(port), segment(port)
		for at := range packet {
			for x := range 256 {
				want := uint32(1)
				switch at {
				case 12, 13, 14, 23, 36, 37:
					want = uint32(chosen(packet[at] == byte(x), 1, 0))
				}
				checkRun(t, p, with(packet, at, byte(x)), want)
			}
		}
	}
}

func TestP72HostOfEachLength(t *testing.T) {
	for _, port := range []uint16{0, 80, 0x5000} {
		p, packet := Host(port), append(segment(port), counted(986)...)
		for n := range 1025 {
			checkRun(t, p, packet[:n], uint32(chosen(n >= 38, 1, 0)))
		}
		// What lies behind the packet's end, in the same memory, isn't the packet's.
		checkRun(t, p, packet[:37:1024], 0)
	}
	checkRun(t, Host(0), nil, 0)
	checkRun(t, Host(0), make([]byte, 1024), 0)
	checkNoRun(t, Host(80), append(segment(80), make([]byte, 987)...), api.ErrLong)
}

func TestP72HostMinds(t *testing.T) {
	p := Host(80)
	// Port 80 as the one from which it comes, IP of other lengths and kinds, UDP, ARP.
	from := segment(81)
	from[35] = 80
	checkRun(t, p, from, 0)
	for at, x := range map[int]byte{14: 70, 23: 17, 13: 6, 12: 0x86} {
		checkRun(t, p, with(segment(80), at, x), 0)
	}
	swapped := segment(80)
	swapped[12], swapped[13] = swapped[13], swapped[12]
	checkRun(t, p, swapped, 0)
}

func TestP72ARP(t *testing.T) {
	p := ARP()
	checkMay(t, p, api.OK)
	packet := counted(1024)
	for kind := range 1 << 16 {
		packet[12], packet[13] = byte(kind>>8), byte(kind)
		checkRun(t, p, packet[:14], uint32(chosen(kind == 2054, 1, 0)))
	}
	packet[12], packet[13] = 8, 6
	for n := range 1025 {
		checkRun(t, p, packet[:n], uint32(chosen(n >= 14, 1, 0)))
	}
	for at := range 60 {
		for x := range 256 {
			same := at != 12 && at != 13 || packet[at] == byte(x)
			checkRun(t, p, with(packet[:60], at, byte(x)), uint32(chosen(same, 1, 0)))
		}
	}
	checkRun(t, p, nil, 0)
	checkRun(t, p, segment(80), 0)
	checkNoRun(t, p, append(packet, 0), api.ErrLong)
}

func TestP72ProgramsAreTheCallers(t *testing.T) {
	for _, told := range []func() []Op{ARP, func() []Op { return Host(80) }} {
		p, q := told(), told()
		want := slices.Clone(q)
		for i := range p {
			p[i] = Op{Code: 7, K: 99}
		}
		if !slices.Equal(q, want) || !slices.Equal(told(), want) {
			t.Errorf("one program's change is another one's: %v", q)
		}
	}
}

// endOf does by the chapter's words what a program does from a step on, and tells with what it ends, and how many steps were done.
func endOf(p []Op, packet []byte, a uint64) (uint64, int) {
	op, rest := p[0], p[1:]
	k := uint64(op.K)
	switch op.Code {
	case 0, 1, 2:
		size := uint64([]int{1, 2, 4}[op.Code])
		if k+size > uint64(len(packet)) {
			return 0, 1
		}
		a = 0
		for _, b := range packet[k : k+size] {
			a = a*256 + uint64(b)
		}
	case 3:
		a = a & k
	case 4:
		a = a >> min(k, 63)
	case 5:
		rest = rest[chosen(a == k, op.T, op.F):]
	case 6:
		rest = rest[chosen(a > k, op.T, op.F):]
	case 7:
		return k, 1
	case 8:
		return a, 1
	}
	end, steps := endOf(rest, packet, a)
	return end, steps + 1
}

// dice tells numbers that look thrown, the same ones each time.
type dice uint64

// roll tells one from 0 to n - 1.
func (d *dice) roll(n int) int {
	*d = *d*6364136223846793005 + 1442695040888963407
	return int(uint64(*d) >> 33 % uint64(n))
}

// program tells a program of n steps that may be, most of whose numbers are at places below bound, so that it seldom ends early.
func (d *dice) program(n, bound int) []Op {
	p := make([]Op, n)
	for i := range p {
		op := Op{Code: d.roll(7), K: uint32(d.roll(300))}
		behind := n - 1 - i
		switch {
		case behind == 0 || d.roll(30) == 0:
			op.Code = 7 + d.roll(2)
		case op.Code < 3 && d.roll(20) > 0:
			op.K = uint32(d.roll(bound))
		case op.Code == 3:
			op.K = ^uint32(d.roll(1 << 16))
		case op.Code == 4:
			op.K = uint32(d.roll(9))
		case op.Code >= 5:
			op.K = edges[d.roll(len(edges))]
			op.T, op.F = d.roll(min(behind, 5)), d.roll(min(behind, 5))
		}
		p[i] = op
	}
	return p
}

func TestP73AsTheWordsSay(t *testing.T) {
	r := dice(7)
	most, ends := 0, map[uint32]int{}
	for range 40000 {
		packet := make([]byte, r.roll(40))
		for i := range packet {
			packet[i] = byte(r.roll(256) * r.roll(2))
		}
		p := r.program(1+r.roll(64), len(packet)+1)
		checkMay(t, p, api.OK)
		want, steps := endOf(p, packet, 0)
		if steps > len(p) {
			t.Fatalf("%v on %x: %d steps", p, packet, steps)
		}
		checkRun(t, p, packet, uint32(want))
		most = max(most, steps)
		ends[uint32(want)]++
	}
	if most < 30 || len(ends) < 1000 || ends[0] > 30000 {
		t.Errorf("%d steps at most, %d ends, 0 %d times: the programs say little", most, len(ends), ends[0])
	}
}

func TestP73EachStepOnceAtMost(t *testing.T) {
	// A loses a bit at each step that isn't left out, so that what it ends with counts the steps.
	packet := []byte{0xff, 0xff, 0xff, 0xff}
	for n := 2; n <= 33; n++ {
		p := []Op{{Code: 2}}
		for len(p) < n {
			p = append(p, Op{Code: 4, K: 1})
		}
		p = append(p, Op{Code: 8})
		checkRun(t, p, packet, 1<<(33-n)-1)
	}
}

func TestP73WhateverComesItEnds(t *testing.T) {
	// Lists of which nothing is known: what may be ends, what may not is told so.
	r := dice(73)
	met := map[api.Errno]int{}
	for range 40000 {
		p := make([]Op, r.roll(6))
		for i := range p {
			p[i] = Op{Code: r.roll(11) - 1, K: edges[r.roll(len(edges))], T: r.roll(5) - 1, F: r.roll(5) - 1}
		}
		packet := make([]byte, 1016+r.roll(12))
		n, e := Run(p, packet)
		met[e]++
		if f := Check(p); f != api.OK && e != f || e != api.OK && n != 0 {
			t.Fatalf("Run(%v) of %d bytes: %d, %d; Check: %d", p, len(packet), n, e, f)
		}
		if e == api.OK {
			want, steps := endOf(p, packet, 0)
			if uint64(n) != want || steps > len(p) {
				t.Fatalf("Run(%v): %d; not %d, behind %d steps", p, n, want, steps)
			}
		}
	}
	for _, e := range []api.Errno{api.OK, api.ErrProg, api.ErrLong} {
		if met[e] < 200 {
			t.Errorf("error %d was met %d times alone", e, met[e])
		}
	}
}
