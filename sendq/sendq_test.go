package sendq

import (
	"math"
	"math/rand"
	"slices"
	"testing"

	"pantler/api"
	"pantler/gather"
)

type list = []gather.Piece

// piece tells a piece.
func piece(frame, off, n int) gather.Piece {
	return gather.Piece{Frame: frame, Off: off, Len: n}
}

// ones tells a list of n pieces of one byte, the first of which has the frame from.
func ones(from, n int) list {
	l := make(list, n)
	for i := range l {
		l[i] = piece((from+i)%256, (from+i)/256, 1)
	}
	return l
}

// made tells a line to which these pieces were added.
func made(t *testing.T, p ...gather.Piece) *Line {
	t.Helper()
	l := New()
	if l == nil {
		t.Fatal("no line")
	}
	checkAdd(t, l, p, api.OK)
	return l
}

// checkAdd adds pieces.
func checkAdd(t *testing.T, l *Line, p list, want api.Errno) {
	t.Helper()
	if e := l.Add(p); e != want {
		t.Fatalf("Add(%v): %d, not %d", p, e, want)
	}
}

// checkAck lets bytes go, with which these frames go.
func checkAck(t *testing.T, l *Line, to int, want ...int) {
	t.Helper()
	if got, e := l.Ack(to); e != api.OK || !slices.Equal(got, want) {
		t.Fatalf("Ack(%d): %v, %d; not %v", to, got, e, want)
	}
}

// checkCut cuts pieces out.
func checkCut(t *testing.T, l *Line, from, n int, want ...gather.Piece) {
	t.Helper()
	if got, e := l.Cut(from, n); e != api.OK || !slices.Equal(got, want) {
		t.Fatalf("Cut(%d, %d): %v, %d; not %v", from, n, got, e, want)
	}
}

// checkNoAck and checkNoCut ask for what can't be, which changes nothing.
func checkNoAck(t *testing.T, l *Line, to int, want api.Errno) {
	t.Helper()
	if got, e := l.Ack(to); e != want || len(got) != 0 {
		t.Fatalf("Ack(%d): %v, %d; not %d", to, got, e, want)
	}
}

func checkNoCut(t *testing.T, l *Line, from, n int, want api.Errno) {
	t.Helper()
	if got, e := l.Cut(from, n); e != want || len(got) != 0 {
		t.Fatalf("Cut(%d, %d): %v, %d; not %d", from, n, got, e, want)
	}
}

// checkHas asks for all that a line tells: where it starts, and the pieces that it has.
func checkHas(t *testing.T, l *Line, start int, want ...gather.Piece) {
	t.Helper()
	size := 0
	var frames []int
	for _, p := range want {
		size += p.Len
		frames = append(frames, p.Frame)
	}
	if l.Start() != start || l.End() != start+size {
		t.Fatalf("from %d to %d, not from %d to %d", l.Start(), l.End(), start, start+size)
	}
	if got := l.Frames(); !slices.Equal(got, frames) {
		t.Fatalf("frames %v, not %v", got, frames)
	}
	checkCut(t, l, start, size, want...)
}

func TestP211New(t *testing.T) {
	l := New()
	checkHas(t, l, 0)
	checkAck(t, l, 0)
	checkNoAck(t, l, 1, api.ErrArg)
	checkNoAck(t, l, -1, api.ErrArg)
	checkNoCut(t, l, 0, 1, api.ErrArg)
	checkNoCut(t, l, 1, 0, api.ErrArg)
	checkHas(t, l, 0)
}

func TestP211Example(t *testing.T) {
	l := made(t, piece(3, 0, 10))
	checkAck(t, l, 4)
	checkHas(t, l, 4, piece(3, 4, 6))
	checkAck(t, l, 10, 3)
	checkHas(t, l, 10)
}

func TestP211AddStandsBehind(t *testing.T) {
	l := made(t, piece(1, 6, 100), piece(2, 0, 256))
	checkHas(t, l, 0, piece(1, 6, 100), piece(2, 0, 256))
	checkAdd(t, l, nil, api.OK)
	checkAdd(t, l, list{}, api.OK)
	checkHas(t, l, 0, piece(1, 6, 100), piece(2, 0, 256))
	checkAdd(t, l, list{piece(2, 255, 1)}, api.OK)
	checkAdd(t, l, list{piece(0, 0, 1), piece(255, 1, 255)}, api.OK)
	checkHas(t, l, 0, piece(1, 6, 100), piece(2, 0, 256), piece(2, 255, 1), piece(0, 0, 1), piece(255, 1, 255))
}

// Pieces that stand side by side in one frame are two all the same, and so are two of the same bytes.
func TestP211AddJoinsNothing(t *testing.T) {
	l := made(t, piece(5, 0, 4), piece(5, 4, 4), piece(5, 4, 4))
	checkHas(t, l, 0, piece(5, 0, 4), piece(5, 4, 4), piece(5, 4, 4))
	checkAck(t, l, 6, 5)
	checkAck(t, l, 12, 5, 5)
}

func TestP211AddAllFrames(t *testing.T) {
	for frame := range 256 {
		checkHas(t, made(t, piece(frame, 9, 9)), 0, piece(frame, 9, 9))
	}
}

func TestP211AddAllSpans(t *testing.T) {
	for off := -2; off <= 258; off++ {
		for n := -2; n <= 258; n++ {
			l := New()
			p := piece(7, off, n)
			if off >= 0 && n >= 1 && off+n <= 256 {
				checkAdd(t, l, list{p}, api.OK)
				checkHas(t, l, 0, p)
			} else {
				checkAdd(t, l, list{p}, api.ErrArg)
				checkHas(t, l, 0)
			}
		}
	}
}

// wrongPieces tells pieces that no line may have.
func wrongPieces() list {
	wrong := list{
		piece(0, 0, 0), piece(0, 256, 0), piece(0, 0, -1), piece(0, 1, -1), piece(0, 256, -256), piece(0, 256, 1), piece(0, 255, 2), piece(0, 1, 256),
		piece(0, 0, 257), piece(0, -1, 1), piece(0, -1, 2), piece(0, -256, 256), piece(0, -5, 10), piece(0, 257, -1), piece(0, 300, 1), piece(0, 128, 129),
		piece(0, math.MaxInt, 1), piece(0, math.MaxInt, math.MaxInt), piece(0, math.MinInt, 1), piece(0, math.MinInt, math.MaxInt), piece(0, math.MinInt, math.MinInt),
		piece(0, 0, math.MaxInt), piece(0, 1, math.MaxInt), piece(0, 256, math.MaxInt), piece(0, 0, math.MinInt), piece(0, 1, math.MinInt), piece(0, math.MaxInt, math.MinInt),
		piece(0, 1<<32, 1), piece(0, 0, 1<<32+1), piece(0, -1<<32, 1), piece(0, 1<<32, 1-1<<32),
	}
	for _, frame := range []int{
		-1, -2, -256, 256, 257, 512, 1 << 16, math.MaxInt32, 1 << 32, 1<<32 + 1, math.MaxInt, math.MinInt32, math.MinInt,
	} {
		wrong = append(wrong, piece(frame, 0, 1), piece(frame, 0, 256))
	}
	return wrong
}

// One wrong piece is enough, wherever it stands, and then none is added.
func TestP211AddErrors(t *testing.T) {
	good := list{piece(1, 0, 10), piece(2, 3, 200), piece(3, 250, 6)}
	for _, wrong := range wrongPieces() {
		l := made(t, piece(9, 1, 2))
		for at := range len(good) + 1 {
			checkAdd(t, l, slices.Insert(slices.Clone(good), at, wrong), api.ErrArg)
			checkHas(t, l, 0, piece(9, 1, 2))
		}
		checkAdd(t, l, list{wrong}, api.ErrArg)
		checkAdd(t, l, good, api.OK)
		checkHas(t, l, 0, piece(9, 1, 2), good[0], good[1], good[2])
	}
}

func TestP211AddFull(t *testing.T) {
	for have := range 161 {
		l := made(t, ones(0, have)...)
		for _, more := range []int{161 - have, 162 - have, 161, 500} {
			checkAdd(t, l, ones(have, more), api.ErrFull)
			checkHas(t, l, 0, ones(0, have)...)
		}
		checkAdd(t, l, ones(have, 160-have), api.OK)
		checkHas(t, l, 0, ones(0, 160)...)
		checkAdd(t, l, ones(0, 1), api.ErrFull)
		checkAdd(t, l, nil, api.OK)
		checkHas(t, l, 0, ones(0, 160)...)
	}
}

// Pieces are counted, not bytes.
func TestP211AddFullOfLongPieces(t *testing.T) {
	long := slices.Repeat(list{piece(4, 0, 256)}, 160)
	l := made(t, long...)
	checkHas(t, l, 0, long...)
	checkAdd(t, l, ones(0, 1), api.ErrFull)
	checkAck(t, l, 255)
	checkAdd(t, l, ones(0, 1), api.ErrFull)
	checkAck(t, l, 256, 4)
	checkAdd(t, l, ones(0, 2), api.ErrFull)
	checkAdd(t, l, ones(0, 1), api.OK)
	checkAdd(t, l, ones(0, 1), api.ErrFull)
	checkAck(t, l, 768, 4, 4)
	checkAdd(t, l, ones(0, 3), api.ErrFull)
	checkAdd(t, l, ones(1, 2), api.OK)
	checkHas(t, l, 768, append(long[:157:157], ones(0, 3)...)...)
}

// ErrArg is named ahead of ErrFull.
func TestP211AddErrArgAheadOfErrFull(t *testing.T) {
	l := made(t, ones(0, 160)...)
	for _, wrong := range wrongPieces() {
		checkAdd(t, l, list{wrong}, api.ErrArg)
		checkAdd(t, l, append(ones(0, 200), wrong), api.ErrArg)
		checkAdd(t, New(), append(ones(0, 160), wrong), api.ErrArg)
	}
	checkHas(t, l, 0, ones(0, 160)...)
}

func TestP211AckEachPlace(t *testing.T) {
	all := list{piece(8, 10, 3), piece(2, 0, 1), piece(8, 255, 1), piece(5, 100, 4)}
	for _, c := range []struct {
		to   int
		gone []int
		left list
	}{
		{0, nil, all},
		{1, nil, list{piece(8, 11, 2), all[1], all[2], all[3]}},
		{2, nil, list{piece(8, 12, 1), all[1], all[2], all[3]}},
		{3, []int{8}, all[1:]},
		{4, []int{8, 2}, all[2:]},
		{5, []int{8, 2, 8}, all[3:]},
		{6, []int{8, 2, 8}, list{piece(5, 101, 3)}},
		{7, []int{8, 2, 8}, list{piece(5, 102, 2)}},
		{8, []int{8, 2, 8}, list{piece(5, 103, 1)}},
		{9, []int{8, 2, 8, 5}, nil},
	} {
		l := made(t, all...)
		checkAck(t, l, c.to, c.gone...)
		checkHas(t, l, c.to, c.left...)
		// Again there is nothing more that goes.
		checkAck(t, l, c.to)
		checkHas(t, l, c.to, c.left...)
		checkNoAck(t, l, c.to-1, api.ErrArg)
		checkNoAck(t, l, 10, api.ErrArg)
		checkHas(t, l, c.to, c.left...)
		checkAdd(t, l, list{piece(1, 1, 2)}, api.OK)
		checkHas(t, l, c.to, append(slices.Clone(c.left), piece(1, 1, 2))...)
		checkAck(t, l, 11, append([]int{8, 2, 8, 5}[len(c.gone):], 1)...)
		checkHas(t, l, 11)
	}
}

// A piece goes byte by byte, and its frame with the last one.
func TestP211AckByteByByte(t *testing.T) {
	l := made(t, piece(6, 0, 256), piece(7, 3, 2))
	for to := 1; to < 256; to++ {
		checkAck(t, l, to)
		checkHas(t, l, to, piece(6, to, 256-to), piece(7, 3, 2))
	}
	checkAck(t, l, 256, 6)
	checkAck(t, l, 257)
	checkHas(t, l, 257, piece(7, 4, 1))
	checkAck(t, l, 258, 7)
	checkHas(t, l, 258)
}

// farNumbers are far from all places of a line.
var farNumbers = [...]int{
	-1, -2, -1 << 31, -1 << 32, -1<<32 + 5, -1 << 62, math.MinInt + 1000, math.MinInt + 5, math.MinInt + 1, math.MinInt,
	1000, 1 << 20, 1<<20 + 1, 1 << 31, 1 << 32, 1<<32 + 5, 1 << 62, math.MaxInt - 1000, math.MaxInt - 5, math.MaxInt - 1, math.MaxInt,
}

// farLines tells lines with nothing, with some bytes from 0 on, and from 5 on.
func farLines(t *testing.T) []*Line {
	t.Helper()
	ahead := made(t, piece(1, 0, 10), piece(2, 0, 3))
	checkAck(t, ahead, 5)
	emptied := made(t, piece(1, 0, 5))
	checkAck(t, emptied, 5, 1)
	return []*Line{New(), made(t, piece(1, 0, 10)), ahead, emptied}
}

func TestP211AckErrors(t *testing.T) {
	for _, l := range farLines(t) {
		start, end := l.Start(), l.End()
		has, _ := l.Cut(start, end-start)
		for _, to := range append(farNumbers[:], start-1, end+1, end+2) {
			checkNoAck(t, l, to, api.ErrArg)
			checkHas(t, l, start, has...)
		}
	}
}

func TestP212Cut(t *testing.T) {
	l := made(t, piece(1, 6, 100), piece(2, 0, 256), piece(1, 0, 5))
	checkCut(t, l, 90, 20, piece(1, 96, 10), piece(2, 0, 10))
	checkCut(t, l, 0, 100, piece(1, 6, 100))
	checkCut(t, l, 100, 1, piece(2, 0, 1))
	checkCut(t, l, 99, 258, piece(1, 105, 1), piece(2, 0, 256), piece(1, 0, 1))
	checkCut(t, l, 360, 1, piece(1, 4, 1))
	checkCut(t, l, 361, 0)
	checkCut(t, l, 100, 0)
	checkCut(t, l, 0, 0)
	checkAck(t, l, 150, 1)
	checkCut(t, l, 150, 206, piece(2, 50, 206))
	checkCut(t, l, 200, 1, piece(2, 100, 1))
	checkCut(t, l, 355, 6, piece(2, 255, 1), piece(1, 0, 5))
	checkCut(t, l, 361, 0)
	checkNoCut(t, l, 149, 1, api.ErrArg)
	checkNoCut(t, l, 149, 0, api.ErrArg)
	checkNoCut(t, l, 150, 212, api.ErrArg)
	checkNoCut(t, l, 361, 1, api.ErrArg)
	checkNoCut(t, l, 362, 0, api.ErrArg)
	// Who cuts takes nothing away.
	checkHas(t, l, 150, piece(2, 50, 206), piece(1, 0, 5))
}

// From each place that is acknowledged all cuts are those of gather.Cut of all that was added.
func TestP212CutAll(t *testing.T) {
	all := list{piece(3, 250, 6), piece(4, 0, 1), piece(3, 0, 7), piece(9, 20, 2)}
	for start := range 17 {
		l := made(t, all...)
		if _, e := l.Ack(start); e != api.OK {
			t.Fatalf("Ack(%d): %d", start, e)
		}
		for from := -1; from <= 18; from++ {
			for n := -1; n <= 18; n++ {
				if from < start || n < 0 || from+n > 16 {
					checkNoCut(t, l, from, n, api.ErrArg)
					continue
				}
				want, e := gather.Cut(all, from, n)
				if e != api.OK {
					t.Fatalf("gather.Cut(%d, %d): %d", from, n, e)
				}
				checkCut(t, l, from, n, want...)
			}
		}
	}
}

func TestP212CutErrors(t *testing.T) {
	for _, l := range farLines(t) {
		start, end := l.Start(), l.End()
		has, _ := l.Cut(start, end-start)
		for _, far := range append(farNumbers[:], start-1, end+1) {
			for _, n := range append(farNumbers[:], 0, 1, 5, -far, end-far, start-far) {
				checkNoCut(t, l, far, n, api.ErrArg)
			}
		}
		for _, n := range farNumbers {
			checkNoCut(t, l, start, n, api.ErrArg)
			checkNoCut(t, l, end, n, api.ErrArg)
		}
		checkNoCut(t, l, start, end-start+1, api.ErrArg)
		checkNoCut(t, l, end, 1, api.ErrArg)
		checkCut(t, l, end, 0)
		checkHas(t, l, start, has...)
	}
}

func TestP211P212Nil(t *testing.T) {
	var l *Line
	for _, p := range []list{nil, {}, {piece(1, 0, 1)}, {piece(-1, 0, 1)}, ones(0, 161)} {
		checkAdd(t, l, p, api.ErrNil)
	}
	for _, n := range append(farNumbers[:], 0, 1) {
		checkNoAck(t, l, n, api.ErrNil)
		checkNoCut(t, l, n, 0, api.ErrNil)
		checkNoCut(t, l, 0, n, api.ErrNil)
	}
	if l.Start() != 0 || l.End() != 0 || len(l.Frames()) != 0 {
		t.Errorf("from %d to %d, %v", l.Start(), l.End(), l.Frames())
	}
}

// What is handed in is neither changed nor kept, and what is told is the caller's.
func TestP211P212Memory(t *testing.T) {
	p := list{piece(1, 0, 10), piece(2, 0, 10), piece(3, 0, 10)}
	l := made(t, p[:2]...)
	checkAdd(t, l, list{piece(4, 0, 10)}, api.OK)
	if p[2] != piece(3, 0, 10) {
		t.Fatalf("behind what was handed in stands %v", p[2])
	}
	clear(p)
	checkHas(t, l, 0, piece(1, 0, 10), piece(2, 0, 10), piece(4, 0, 10))
	cut, _ := l.Cut(0, 30)
	frames := l.Frames()
	clear(cut)
	clear(frames)
	checkHas(t, l, 0, piece(1, 0, 10), piece(2, 0, 10), piece(4, 0, 10))
	cut, _ = l.Cut(0, 30)
	frames = l.Frames()
	gone, _ := l.Ack(15)
	if !slices.Equal(cut, list{piece(1, 0, 10), piece(2, 0, 10), piece(4, 0, 10)}) || !slices.Equal(frames, []int{1, 2, 4}) {
		t.Fatalf("what was told became %v, %v", cut, frames)
	}
	clear(gone[:cap(gone)])
	clear(cut[:cap(cut)])
	clear(frames[:cap(frames)])
	checkHas(t, l, 15, piece(2, 5, 5), piece(4, 0, 10))
	cut, _ = l.Cut(15, 15)
	checkAdd(t, l, cut, api.OK)
	clear(cut)
	checkHas(t, l, 15, piece(2, 5, 5), piece(4, 0, 10), piece(2, 5, 5), piece(4, 0, 10))
}

// A list that was handed in stays as it was, though a part of its first piece went.
func TestP211AckLeavesWhatWasHandedIn(t *testing.T) {
	p := list{piece(1, 3, 10), piece(2, 0, 10)}
	l := made(t, p...)
	checkAck(t, l, 4)
	checkAck(t, l, 12, 1)
	if !slices.Equal(p, list{piece(1, 3, 10), piece(2, 0, 10)}) {
		t.Fatalf("it became %v", p)
	}
	checkHas(t, l, 12, piece(2, 2, 8))
}

// Each line has its own pieces.
func TestP211Apart(t *testing.T) {
	p := list{piece(1, 0, 10), piece(2, 0, 10)}
	a, b := made(t, p...), made(t, p...)
	checkAck(t, a, 12, 1)
	checkHas(t, b, 0, p...)
	checkAdd(t, b, list{piece(3, 0, 1)}, api.OK)
	checkHas(t, a, 12, piece(2, 2, 8))
	checkHas(t, New(), 0)
}

// A stream goes on and on, far beyond what a line has at once.
func TestP213LongStream(t *testing.T) {
	l := New()
	long := slices.Repeat(list{piece(11, 0, 256)}, 160)
	eleven := slices.Repeat([]int{11}, 160)
	start := 0
	for range 60 {
		checkAdd(t, l, long, api.OK)
		checkHas(t, l, start, long...)
		checkNoAck(t, l, start-1, api.ErrArg)
		checkNoCut(t, l, start-1, 1, api.ErrArg)
		start += 160 * 256
		checkNoAck(t, l, start+1, api.ErrArg)
		checkNoCut(t, l, start, 1, api.ErrArg)
		checkAck(t, l, start, eleven...)
		checkHas(t, l, start)
	}
}

// spot is a byte of a stream, as the model has it.
type spot struct {
	frame, off int
	last       bool // of its piece
}

// model is a line by the chapter's words, byte by byte.
type model struct {
	spots []spot // of all bytes that were ever added
	start int
}

func (m *model) add(p list) {
	for _, x := range p {
		for i := range x.Len {
			m.spots = append(m.spots, spot{x.Frame, x.Off + i, i == x.Len-1})
		}
	}
}

// pieces tells those of the bytes between two places.
func (m *model) pieces(from, to int) list {
	var l list
	begins := true
	for _, s := range m.spots[from:to] {
		if begins {
			l = append(l, piece(s.frame, s.off, 0))
		}
		l[len(l)-1].Len++
		begins = s.last
	}
	return l
}

// ack tells the frames whose pieces have their last byte below to.
func (m *model) ack(to int) []int {
	var gone []int
	for _, s := range m.spots[m.start:to] {
		if s.last {
			gone = append(gone, s.frame)
		}
	}
	m.start = to
	return gone
}

// thrown tells up to n pieces, short ones and long ones.
func thrown(r *rand.Rand, n int) list {
	l := make(list, r.Intn(n+1))
	for i := range l {
		off := r.Intn(256)
		most := 256 - off
		if r.Intn(3) > 0 {
			most = min(most, 4)
		}
		l[i] = piece(r.Intn(256), off, 1+r.Intn(most))
	}
	return l
}

// Of any calls a line tells what the model tells; the frame of each piece is told once, when its last byte goes.
func TestP213Random(t *testing.T) {
	r := rand.New(rand.NewSource(21))
	full := 0
	for range 300 {
		l, m := New(), &model{}
		var added, told []int
		for range 60 {
			switch r.Intn(4) {
			case 0, 1:
				p := thrown(r, 30)
				if len(m.pieces(m.start, len(m.spots)))+len(p) > 160 {
					checkAdd(t, l, p, api.ErrFull)
					full++
					break
				}
				checkAdd(t, l, p, api.OK)
				m.add(p)
				for _, x := range p {
					added = append(added, x.Frame)
				}
			case 2:
				to := m.start + r.Intn(min(len(m.spots)-m.start, 1+r.Intn(900))+1)
				want := m.ack(to)
				checkAck(t, l, to, want...)
				told = append(told, want...)
			case 3:
				from := m.start + r.Intn(len(m.spots)-m.start+1)
				n := r.Intn(len(m.spots) - from + 1)
				checkCut(t, l, from, n, m.pieces(from, from+n)...)
			}
			checkHas(t, l, m.start, m.pieces(m.start, len(m.spots))...)
			if !slices.Equal(append(slices.Clone(told), l.Frames()...), added) {
				t.Fatalf("told %v, left %v; added were %v", told, l.Frames(), added)
			}
		}
		checkAck(t, l, len(m.spots), m.ack(len(m.spots))...)
		checkHas(t, l, len(m.spots))
	}
	if full < 100 {
		t.Errorf("only %d times full", full)
	}
}
