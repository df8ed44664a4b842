package gather

import (
	"bytes"
	"math"
	"slices"
	"testing"

	"pantler/api"
	"pantler/frame"
)

// badNumbers are no environments and no frames, in whatever table.
var badNumbers = []int{-1, -2, -256, 257, 258, 1 << 16, math.MaxInt32, 1 << 32, 1<<32 + 1, math.MaxInt - 1, math.MaxInt, math.MinInt32, math.MinInt, math.MinInt + 1}

// wrongSpans are places and lengths of bytes that don't lie within a frame.
var wrongSpans = [][2]int{
	{0, 257}, {1, 256}, {255, 2}, {256, 1}, {257, 0}, {257, -1}, {258, -2}, {128, 129},
	{-1, 0}, {-1, 1}, {-1, 2}, {-256, 256}, {-5, 10}, {0, -1}, {1, -1}, {256, -1}, {256, -256}, {256, -257},
	{math.MaxInt, 0}, {math.MaxInt, 1}, {0, math.MaxInt}, {1, math.MaxInt}, {256, math.MaxInt},
	{math.MaxInt, math.MaxInt}, {math.MinInt, 0}, {math.MinInt, math.MinInt}, {math.MinInt, math.MaxInt}, {math.MaxInt, math.MinInt},
	{0, math.MinInt}, {1 << 32, 1}, {1, 1 << 32}, {1<<32 + 1, 1},
}

// filled tells the bytes of a whole frame, which hang on what they begin with.
func filled(from int) []byte {
	b := make([]byte, 256)
	for i := range b {
		b[i] = byte(from*31 + i*7)
	}
	return b
}

// made tells a table with a frame of each of these owners (0: it is free), whose bytes are filled with its number.
func made(t *testing.T, owners ...int) *frame.Table {
	t.Helper()
	x, e := frame.New(len(owners))
	if e != api.OK {
		t.Fatalf("New(%d): %d", len(owners), e)
	}
	for f, owner := range owners {
		x.Alloc(max(owner, 1))
		x.Write(max(owner, 1), f, 0, filled(f))
	}
	for f, owner := range owners {
		if owner == 0 {
			x.Free(1, f)
		}
	}
	return x
}

// holdsOf tells the holds of all frames.
func holdsOf(x *frame.Table) []int {
	holds := make([]int, x.Size())
	for f := range holds {
		holds[f] = x.Holds(f)
	}
	return holds
}

// checkHolds holds the holds of all frames against those that are wanted.
func checkHolds(t *testing.T, x *frame.Table, want ...int) {
	t.Helper()
	if got := holdsOf(x); !slices.Equal(got, want) {
		t.Fatalf("holds: %v; not %v", got, want)
	}
}

// checkErr holds an error against the one that is wanted.
func checkErr(t *testing.T, call string, got, want api.Errno) {
	t.Helper()
	if got != want {
		t.Fatalf("%s: %d; not %d", call, got, want)
	}
}

// checkMay asks whether the list may be, and holds it: if it may, each frame has as many holds more as it stands there, and loses them again.
func checkMay(t *testing.T, x *frame.Table, env int, l []Piece, want api.Errno) {
	t.Helper()
	before := holdsOf(x)
	if e := Check(x, env, l); e != want {
		t.Fatalf("Check(%d, %v): %d; not %d", env, l, e, want)
	}
	checkHolds(t, x, before...)
	if e := Hold(x, env, l); e != want {
		t.Fatalf("Hold(%d, %v): %d; not %d", env, l, e, want)
	}
	if want != api.OK {
		checkHolds(t, x, before...)
		return
	}
	more := slices.Clone(before)
	for _, p := range l {
		more[p.Frame]++
	}
	checkHolds(t, x, more...)
	checkErr(t, "Drop", Drop(x, l), api.OK)
	checkHolds(t, x, before...)
}

// checkFetch fetches.
func checkFetch(t *testing.T, x *frame.Table, l []Piece, want string, g api.Errno) {
	t.Helper()
	before := holdsOf(x)
	if b, e := Fetch(x, l); string(b) != want || e != g || e != api.OK && b != nil {
		t.Fatalf("Fetch(%v): %q, %d; not %q, %d", l, b, e, want, g)
	}
	checkHolds(t, x, before...)
}

// checkCut cuts.
func checkCut(t *testing.T, l []Piece, from, n int, want []Piece, g api.Errno) {
	t.Helper()
	if c, e := Cut(l, from, n); !slices.Equal(c, want) || e != g || e != api.OK && c != nil {
		t.Fatalf("Cut(%v, %d, %d): %v, %d; not %v, %d", l, from, n, c, e, want, g)
	}
}

// times tells a list with a piece so many times.
func times(n int, p Piece) []Piece {
	return slices.Repeat([]Piece{p}, n)
}

// with tells a list with another piece at a place.
func with(l []Piece, at int, p Piece) []Piece {
	l = slices.Clone(l)
	l[at] = p
	return l
}

func TestP81WhatMayBe(t *testing.T) {
	x := made(t, 1, 2, 1, 2)
	for env := 1; env <= 2; env++ {
		f := env - 1
		for _, l := range [][]Piece{
			{{f, 0, 1}}, {{f, 255, 1}}, {{f, 0, 256}}, {{f, 1, 255}}, {{f, 128, 128}},
			{{f, 0, 256}, {f + 2, 0, 256}, {f, 0, 256}, {f + 2, 0, 256}},
			{{f, 5, 3}, {f, 4, 5}, {f, 5, 3}, {f + 2, 255, 1}},
			times(16, Piece{f, 192, 64}), times(16, Piece{f, 0, 1}),
			append(times(3, Piece{f, 0, 256}), Piece{f + 2, 0, 255}, Piece{f, 9, 1}),
		} {
			checkMay(t, x, env, l, api.OK)
		}
	}
}

func TestP81AllSpans(t *testing.T) {
	x := made(t, 2)
	for off := -1; off <= 257; off++ {
		for n := -1; n <= 258; n++ {
			want := api.ErrArg
			if off >= 0 && n >= 1 && off+n <= 256 {
				want = api.OK
			}
			checkMay(t, x, 2, []Piece{{0, off, n}}, want)
		}
	}
}

func TestP81WrongEnvironments(t *testing.T) {
	x := made(t, 1, 2)
	for _, env := range append([]int{0, 3}, badNumbers...) {
		checkMay(t, x, env, []Piece{{0, 0, 1}}, api.ErrArg)
		checkMay(t, x, env, times(17, Piece{1, 0, 256}), api.ErrArg)
		checkMay(t, x, env, nil, api.ErrArg)
	}
}

// An environment 0 owns nothing, though that is the number of who owns a free frame.
func TestP81NobodyIsNoEnvironment(t *testing.T) {
	x := made(t, 0)
	checkMay(t, x, 0, []Piece{{0, 0, 1}}, api.ErrArg)
}

func TestP81NoPieces(t *testing.T) {
	x := made(t, 1)
	checkMay(t, x, 1, nil, api.ErrArg)
	checkMay(t, x, 1, []Piece{}, api.ErrArg)
	checkMay(t, x, 2, nil, api.ErrArg)
}

func TestP81OneWrongPiece(t *testing.T) {
	x := made(t, 1, 1, 2)
	good := times(5, Piece{1, 3, 4})
	for at := range good {
		for _, f := range append([]int{3, 4, 255, 256}, badNumbers...) {
			checkMay(t, x, 1, with(good, at, Piece{f, 0, 1}), api.ErrArg)
		}
		for _, c := range wrongSpans {
			checkMay(t, x, 1, with(good, at, Piece{0, c[0], c[1]}), api.ErrArg)
		}
		for _, off := range []int{0, 1, 255, 256} {
			checkMay(t, x, 1, with(good, at, Piece{0, off, 0}), api.ErrArg)
		}
		checkMay(t, x, 1, with(good, at, Piece{2, 0, 1}), api.ErrOwner)
		checkMay(t, x, 1, with(good, at, Piece{0, 0, 1}), api.OK)
	}
}

func TestP81TooLong(t *testing.T) {
	x := made(t, 1)
	checkMay(t, x, 1, times(16, Piece{0, 0, 1}), api.OK)
	checkMay(t, x, 1, times(4, Piece{0, 0, 256}), api.OK)
	for _, n := range []int{17, 18, 256, 1 << 16, 1<<16 + 1} {
		checkMay(t, x, 1, times(n, Piece{0, 0, 1}), api.ErrLong)
		checkMay(t, x, 1, times(n, Piece{0, 0, 256}), api.ErrLong)
	}
	checkMay(t, x, 1, append(times(4, Piece{0, 0, 256}), Piece{0, 7, 1}), api.ErrLong)
	checkMay(t, x, 1, times(5, Piece{0, 51, 205}), api.ErrLong)
	checkMay(t, x, 1, with(times(16, Piece{0, 0, 64}), 15, Piece{0, 0, 65}), api.ErrLong)
	checkMay(t, x, 1, times(16, Piece{0, 0, 256}), api.ErrLong)
}

func TestP81SomebodyElses(t *testing.T) {
	x := made(t, 1, 2, 0)
	checkMay(t, x, 1, []Piece{{1, 0, 1}}, api.ErrOwner)
	checkMay(t, x, 2, []Piece{{0, 0, 1}}, api.ErrOwner)
	for at := range 16 {
		for env := 1; env <= 2; env++ {
			l := times(16, Piece{env - 1, 0, 64})
			checkMay(t, x, env, with(l, at, Piece{2 - env, 0, 64}), api.ErrOwner)
			checkMay(t, x, env, with(l, at, Piece{2, 0, 64}), api.ErrOwner)
		}
	}
	// Who has it now is asked.
	x.Give(1, 0, 2)
	checkMay(t, x, 1, []Piece{{0, 0, 1}}, api.ErrOwner)
	checkMay(t, x, 2, []Piece{{0, 0, 1}, {1, 0, 1}}, api.OK)
}

func TestP81WhatIsToldFirst(t *testing.T) {
	x := made(t, 1, 2)
	long := times(17, Piece{1, 0, 256})
	checkMay(t, x, 1, long, api.ErrLong)
	for at := range long {
		checkMay(t, x, 1, with(long, at, Piece{0, 0, 0}), api.ErrArg)
		checkMay(t, x, 1, with(long, at, Piece{2, 0, 1}), api.ErrArg)
		checkMay(t, x, 1, with(long, at, Piece{0, 200, 57}), api.ErrArg)
	}
	checkMay(t, x, 1, times(5, Piece{1, 0, 256}), api.ErrLong)
	checkMay(t, x, 1, []Piece{{1, 0, 1}, {0, 0, 0}}, api.ErrArg)
	checkMay(t, x, 1, []Piece{{1, 0, 1}, {0, 0, 1}}, api.ErrOwner)
}

func TestP81HoldAsOftenAsItStands(t *testing.T) {
	x := made(t, 1, 1, 2)
	l := []Piece{{0, 0, 1}, {1, 255, 1}, {0, 9, 9}, {0, 0, 1}}
	for n := 1; n <= 40; n++ {
		checkErr(t, "Hold", Hold(x, 1, l), api.OK)
		checkHolds(t, x, 3*n, n, 0)
	}
	checkErr(t, "Hold", Hold(x, 2, []Piece{{2, 0, 1}}), api.OK)
	checkHolds(t, x, 120, 40, 1)
}

func TestP81HoldThatFailsTakesBackItsOwnAlone(t *testing.T) {
	x := made(t, 1, 1, 2)
	x.Hold(1, 0)
	x.Hold(2, 2)
	x.Hold(2, 2)
	for at := range 16 {
		l := with(times(16, Piece{0, 0, 1}), at, Piece{2, 0, 1})
		l[(at+1)%16].Frame = 1
		checkErr(t, "Hold", Hold(x, 1, l), api.ErrOwner)
		checkHolds(t, x, 1, 0, 2)
	}
}

func TestP81P82OfNil(t *testing.T) {
	for _, l := range [][]Piece{nil, {}, {{0, 0, 1}}, {{0, 0, 0}}, {{-1, -1, -1}}, times(99, Piece{0, 0, 256})} {
		for _, env := range []int{0, 1, 2, 3, math.MinInt} {
			checkErr(t, "Check", Check(nil, env, l), api.ErrNil)
			checkErr(t, "Hold", Hold(nil, env, l), api.ErrNil)
		}
		if b, e := Fetch(nil, l); b != nil || e != api.ErrNil {
			t.Errorf("Fetch(nil, %v): %q, %d", l, b, e)
		}
		checkErr(t, "Drop", Drop(nil, l), api.ErrNil)
	}
}

// Nothing is said of what a table that New didn't make answers, but that it does.
func TestP81P82OfATableThatIsZero(t *testing.T) {
	for _, l := range [][]Piece{nil, {{0, 0, 0}}, {{0, 0, 1}}, {{255, 0, 1}}} {
		var x frame.Table
		Check(&x, 1, l)
		Hold(&x, 1, l)
		Fetch(&x, l)
		Drop(&x, l)
	}
}

func TestP81Size(t *testing.T) {
	const most = 1048576
	for _, c := range []struct {
		l    []Piece
		want int
	}{
		{nil, 0}, {[]Piece{}, 0}, {[]Piece{{0, 0, 0}}, 0}, {[]Piece{{0, 0, 1}}, 1}, {[]Piece{{0, 7, 256}}, 256},
		{[]Piece{{0, 0, 5}, {1, 0, 6}, {0, 0, 7}}, 18},
		{[]Piece{{0, 0, -1}}, 0}, {[]Piece{{0, 0, math.MinInt}}, 0}, {[]Piece{{0, 0, -3}, {0, 0, 5}, {0, 0, math.MinInt}, {0, 0, 2}}, 7},
		// Where they lie isn't asked.
		{[]Piece{{-1, -9, 4}, {math.MaxInt, math.MaxInt, 4}, {math.MinInt, math.MinInt, 4}, {0, 0, 257}}, 269},
		{[]Piece{{0, 0, most - 1}}, most - 1}, {[]Piece{{0, 0, most}}, most}, {[]Piece{{0, 0, most + 1}}, most},
		{[]Piece{{0, 0, most - 1}, {0, 0, 1}}, most}, {[]Piece{{0, 0, most - 1}, {0, 0, 2}}, most}, {[]Piece{{0, 0, 1}, {0, 0, most}, {0, 0, -5}}, most},
		{[]Piece{{0, 0, math.MaxInt}}, most}, {times(2, Piece{0, 0, math.MaxInt}), most}, {times(3, Piece{0, 0, math.MaxInt}), most}, {times(4, Piece{0, 0, 1 << 62}), most},
		{[]Piece{{0, 0, math.MaxInt}, {0, 0, math.MinInt}, {0, 0, 1}}, most},
		{times(4095, Piece{0, 0, 256}), most - 256}, {times(4096, Piece{0, 0, 256}), most}, {times(4097, Piece{0, 0, 256}), most},
	} {
		if n := Size(c.l); n != c.want {
			t.Errorf("Size(%d pieces): %d; not %d", len(c.l), n, c.want)
		}
	}
}

func TestP82Fetch(t *testing.T) {
	x := made(t, 1, 2, 1)
	x.Write(1, 0, 0, []byte("hello "))
	x.Write(2, 1, 251, []byte("world"))
	l := []Piece{{0, 0, 6}, {1, 251, 5}, {0, 1, 1}, {0, 1, 4}}
	checkFetch(t, x, l, "", api.ErrArg)
	x.Hold(1, 0)
	checkFetch(t, x, l, "", api.ErrArg)
	x.Hold(2, 1)
	// Whoever owns them.
	checkFetch(t, x, l, "hello worldeello", api.OK)
	checkFetch(t, x, l[1:], "worldeello", api.OK)
	checkFetch(t, x, []Piece{l[1], l[0]}, "worldhello ", api.OK)
	x.Drop(0)
	checkFetch(t, x, l, "", api.ErrArg)
	checkFetch(t, x, l[1:2], "world", api.OK)
}

func TestP82FetchOfNoBytes(t *testing.T) {
	x := made(t, 1, 1)
	checkFetch(t, x, nil, "", api.OK)
	checkFetch(t, x, []Piece{}, "", api.OK)
	checkFetch(t, x, []Piece{{0, 0, 0}}, "", api.ErrArg)
	x.Hold(1, 0)
	x.Write(1, 1, 0, []byte("x"))
	for _, off := range []int{0, 1, 255, 256} {
		checkFetch(t, x, []Piece{{0, off, 0}}, "", api.OK)
		checkFetch(t, x, []Piece{{0, off, 0}, {0, 4, 2}, {0, off, 0}}, string(filled(0)[4:6]), api.OK)
	}
	checkFetch(t, x, []Piece{{0, 0, 1}, {1, 0, 0}}, "", api.ErrArg)
}

func TestP82FetchOfManyPieces(t *testing.T) {
	x := made(t, 1)
	x.Hold(1, 0)
	// A list of more than MaxGather pieces, or MaxPacket bytes, is fetched, too.
	checkFetch(t, x, times(17, Piece{0, 5, 1}), string(bytes.Repeat(filled(0)[5:6], 17)), api.OK)
	checkFetch(t, x, times(500, Piece{0, 0, 256}), string(bytes.Repeat(filled(0), 500)), api.OK)
}

func TestP82FetchErrors(t *testing.T) {
	x := made(t, 1, 2, 1, 0)
	x.Hold(1, 0)
	x.Hold(2, 1)
	good := times(3, Piece{1, 9, 2})
	for at := range good {
		for _, c := range wrongSpans {
			checkFetch(t, x, with(good, at, Piece{0, c[0], c[1]}), "", api.ErrArg)
		}
		for _, f := range append([]int{2, 3, 4, 5, 255, 256}, badNumbers...) {
			checkFetch(t, x, with(good, at, Piece{f, 0, 1}), "", api.ErrArg)
		}
		want := bytes.Repeat(filled(1)[9:11], 3)
		copy(want[2*at:], filled(0)[9:11])
		checkFetch(t, x, with(good, at, Piece{0, 9, 2}), string(want), api.OK)
	}
}

func TestP82FetchTellsNewMemory(t *testing.T) {
	x := made(t, 1)
	x.Hold(1, 0)
	l := []Piece{{0, 0, 256}}
	b, _ := Fetch(x, l)
	clear(b)
	checkFetch(t, x, l, string(filled(0)), api.OK)
	c, _ := Fetch(x, l)
	x.Drop(0)
	x.Write(1, 0, 0, filled(9))
	if !bytes.Equal(c, filled(0)) {
		t.Errorf("what was told is changed: %x", c)
	}
}

func TestP82Drop(t *testing.T) {
	x := made(t, 1, 2, 1)
	for range 5 {
		x.Hold(1, 0)
		x.Hold(2, 1)
	}
	checkErr(t, "Drop", Drop(x, nil), api.OK)
	checkErr(t, "Drop", Drop(x, []Piece{}), api.OK)
	checkHolds(t, x, 5, 5, 0)
	checkErr(t, "Drop", Drop(x, []Piece{{0, 0, 1}, {1, 0, 1}, {0, 5, 5}}), api.OK)
	checkHolds(t, x, 3, 4, 0)
	checkErr(t, "Drop", Drop(x, times(4, Piece{1, 0, 256})), api.OK)
	checkHolds(t, x, 3, 0, 0)
	checkErr(t, "Drop", Drop(x, times(3, Piece{0, 0, 1})), api.OK)
	checkHolds(t, x, 0, 0, 0)
	checkErr(t, "Free", x.Free(1, 0), api.OK)
}

func TestP82DropAsksForFramesAlone(t *testing.T) {
	x := made(t, 1)
	for _, c := range wrongSpans {
		x.Hold(1, 0)
		checkErr(t, "Drop", Drop(x, []Piece{{0, c[0], c[1]}}), api.OK)
		checkHolds(t, x, 0)
	}
	for range 300 {
		x.Hold(1, 0)
	}
	checkErr(t, "Drop", Drop(x, times(301, Piece{0, 0, 1})), api.ErrArg)
	checkHolds(t, x, 300)
	checkErr(t, "Drop", Drop(x, times(300, Piece{0, 0, 1})), api.OK)
	checkHolds(t, x, 0)
}

func TestP82DropErrors(t *testing.T) {
	x := made(t, 1, 2, 1, 0)
	for range 3 {
		x.Hold(1, 0)
	}
	x.Hold(2, 1)
	for at := range 3 {
		l := times(3, Piece{0, 0, 1})
		for _, f := range append([]int{2, 3, 4, 5, 255, 256}, badNumbers...) {
			checkErr(t, "Drop", Drop(x, with(l, at, Piece{f, 0, 1})), api.ErrArg)
			checkHolds(t, x, 3, 1, 0, 0)
		}
		// One more than there are, of either.
		checkErr(t, "Drop", Drop(x, append(l, Piece{0, 0, 1})), api.ErrArg)
		checkErr(t, "Drop", Drop(x, append(with(l, at, Piece{1, 0, 1}), Piece{1, 0, 1})), api.ErrArg)
		checkHolds(t, x, 3, 1, 0, 0)
	}
	checkErr(t, "Drop", Drop(x, []Piece{{0, 0, 1}, {1, 0, 1}, {0, 0, 1}, {0, 0, 1}}), api.OK)
	checkHolds(t, x, 0, 0, 0, 0)
}

func TestP82TheGreatestTable(t *testing.T) {
	owners := slices.Repeat([]int{1}, 256)
	x := made(t, owners...)
	l := []Piece{{255, 0, 4}, {0, 0, 4}, {254, 0, 4}}
	checkMay(t, x, 1, l, api.OK)
	checkMay(t, x, 1, []Piece{{256, 0, 1}}, api.ErrArg)
	checkErr(t, "Hold", Hold(x, 1, l), api.OK)
	checkFetch(t, x, l, string(filled(255)[:4])+string(filled(0)[:4])+string(filled(254)[:4]), api.OK)
	checkErr(t, "Drop", Drop(x, []Piece{{256, 0, 1}}), api.ErrArg)
	checkErr(t, "Drop", Drop(x, l), api.OK)
	checkHolds(t, x, make([]int, 256)...)
}

func TestP83Example(t *testing.T) {
	checkCut(t, []Piece{{3, 10, 20}}, 5, 4, []Piece{{3, 15, 4}}, api.OK)
}

func TestP83Cut(t *testing.T) {
	l := []Piece{{3, 10, 20}, {4, 0, 1}, {3, 10, 20}, {0, 200, 56}}
	checkCut(t, l, 0, 97, l, api.OK)
	checkCut(t, l, 19, 3, []Piece{{3, 29, 1}, {4, 0, 1}, {3, 10, 1}}, api.OK)
	checkCut(t, l, 20, 1, []Piece{{4, 0, 1}}, api.OK)
	checkCut(t, l, 20, 2, []Piece{{4, 0, 1}, {3, 10, 1}}, api.OK)
	checkCut(t, l, 21, 76, l[2:], api.OK)
	checkCut(t, l, 96, 1, []Piece{{0, 255, 1}}, api.OK)
	// Pieces that lie side by side in a frame stay two.
	checkCut(t, []Piece{{1, 0, 4}, {1, 4, 4}}, 2, 4, []Piece{{1, 2, 2}, {1, 4, 2}}, api.OK)
}

func TestP83CutOfNoBytes(t *testing.T) {
	l := []Piece{{3, 10, 2}, {4, 0, 1}}
	for from := 0; from <= 3; from++ {
		checkCut(t, l, from, 0, nil, api.OK)
	}
	checkCut(t, l, 4, 0, nil, api.ErrArg)
	checkCut(t, nil, 0, 0, nil, api.OK)
	checkCut(t, []Piece{}, 0, 0, nil, api.OK)
	checkCut(t, nil, 0, 1, nil, api.ErrArg)
	checkCut(t, nil, 1, 0, nil, api.ErrArg)
}

func TestP83CutLeavesOutPiecesOfNoBytes(t *testing.T) {
	l := []Piece{{9, 0, 0}, {3, 10, 2}, {9, 256, 0}, {4, 0, 1}, {9, 4, 0}}
	checkCut(t, l, 0, 3, []Piece{{3, 10, 2}, {4, 0, 1}}, api.OK)
	checkCut(t, l, 1, 2, []Piece{{3, 11, 1}, {4, 0, 1}}, api.OK)
	checkCut(t, l, 2, 1, []Piece{{4, 0, 1}}, api.OK)
	checkCut(t, l, 3, 0, nil, api.OK)
	checkCut(t, l, 0, 0, nil, api.OK)
	checkCut(t, l[:1], 0, 0, nil, api.OK)
	checkCut(t, l[:1], 0, 1, nil, api.ErrArg)
}

func TestP83CutErrors(t *testing.T) {
	good := []Piece{{0, 0, 3}, {1, 5, 4}, {2, 0, 256}}
	for at := range good {
		for _, f := range badNumbers {
			checkCut(t, with(good, at, Piece{f, 0, 9}), 0, 1, nil, api.ErrArg)
			checkCut(t, with(good, at, Piece{f, 0, 0}), 0, 0, nil, api.ErrArg)
		}
		for _, c := range wrongSpans {
			checkCut(t, with(good, at, Piece{0, c[0], c[1]}), 0, 0, nil, api.ErrArg)
			checkCut(t, with(good, at, Piece{0, c[0], c[1]}), 0, 1, nil, api.ErrArg)
		}
	}
	for _, c := range [][2]int{
		{0, 264}, {1, 263}, {263, 1}, {264, 0}, {264, -1}, {-1, 0}, {-1, 1}, {-1, 264}, {0, -1}, {5, -1}, {263, -263},
		{math.MaxInt, 0}, {math.MaxInt, 1}, {0, math.MaxInt}, {1, math.MaxInt}, {263, math.MaxInt}, {math.MaxInt, math.MaxInt},
		{math.MinInt, 0}, {0, math.MinInt}, {math.MinInt, math.MinInt}, {math.MinInt, math.MaxInt}, {math.MaxInt, math.MinInt}, {math.MaxInt, -math.MaxInt + 5},
		{1 << 32, 0}, {0, 1 << 32},
	} {
		checkCut(t, good, c[0], c[1], nil, api.ErrArg)
	}
}

func TestP83CutNumbersOfFrames(t *testing.T) {
	for f := range 257 {
		checkCut(t, []Piece{{f, 6, 6}}, 1, 2, []Piece{{f, 7, 2}}, api.OK)
	}
	checkCut(t, []Piece{{257, 6, 6}}, 1, 2, nil, api.ErrArg)
	checkCut(t, []Piece{{-1, 6, 6}}, 1, 2, nil, api.ErrArg)
}

// What stands behind the greatest size isn't cut any more.
func TestP83CutOfAGreatList(t *testing.T) {
	l := append(times(4096, Piece{5, 0, 256}), Piece{6, 0, 256})
	checkCut(t, l, 0, 1048576, l[:4096], api.OK)
	checkCut(t, l, 1048575, 1, []Piece{{5, 255, 1}}, api.OK)
	checkCut(t, l, 1048576, 0, nil, api.OK)
	checkCut(t, l, 1048576, 1, nil, api.ErrArg)
	checkCut(t, l, 1, 1048576, nil, api.ErrArg)
	checkCut(t, l, 1048577, 0, nil, api.ErrArg)
	checkCut(t, l, 0, 1048577, nil, api.ErrArg)
}

func TestP81P82P83WhatIsHandedInStays(t *testing.T) {
	x := made(t, 1, 2)
	for _, l := range [][]Piece{{{0, 1, 2}, {0, 5, 6}, {0, 0, 1}}, {{0, 1, 2}, {1, 5, 6}}, {{0, 1, 2}, {0, 0, 0}, {0, 3, 4}}} {
		same := slices.Clone(l)
		Check(x, 1, l)
		Hold(x, 1, l)
		Fetch(x, l)
		Size(l)
		c, _ := Cut(l, 0, Size(l))
		for i := range c {
			c[i] = Piece{7, 7, 7}
		}
		Cut(l, 1, 2)
		Drop(x, l)
		if !slices.Equal(l, same) {
			t.Errorf("it became %v", l)
		}
	}
}

// dice tells numbers that look thrown, the same ones each time.
type dice uint64

// roll tells one from 0 to n - 1.
func (d *dice) roll(n int) int {
	*d = *d*6364136223846793005 + 1442695040888963407
	return int(uint64(*d) >> 33 % uint64(n))
}

// piece throws one of a table of n frames; now and then something is just beyond what may be.
func (d *dice) piece(n int) Piece {
	p := Piece{Frame: d.roll(n), Off: d.roll(256)}
	p.Len = 1 + d.roll(256-p.Off)
	if d.roll(3) > 0 {
		p.Len = 1 + d.roll(min(p.Len, 40))
	}
	switch d.roll(150) {
	case 0:
		p.Frame = -1
	case 1:
		p.Frame = n
	case 2:
		p.Off = -1
	case 3:
		p.Len = 0
	case 4:
		p.Len = -1
	case 5:
		p.Len = 257 - p.Off
	}
	return p
}

// list throws a list of up to n pieces.
func (d *dice) list(n, frames int) []Piece {
	var l []Piece
	for range d.roll(n + 1) {
		l = append(l, d.piece(frames))
	}
	return l
}

// errOf tells by the chapter's words what Check answers.
func errOf(x *frame.Table, env int, l []Piece) api.Errno {
	all, others := 0, 0
	for _, p := range l {
		if p.Len < 1 || p.Off < 0 || p.Off+p.Len > 256 || p.Frame < 0 || p.Frame > x.Size()-1 {
			return api.ErrArg
		}
		all += p.Len
		if x.Owner(p.Frame) != env {
			others++
		}
	}
	switch {
	case len(l) == 0:
		return api.ErrArg
	case len(l) > 16 || all > 1024:
		return api.ErrLong
	case others > 0:
		return api.ErrOwner
	}
	return api.OK
}

func TestP84HoldAndThenDropLeaveAllAsItWas(t *testing.T) {
	d := dice(8)
	x := made(t, 1, 1, 2, 1, 1, 1, 2, 0)
	for _, f := range []int{1, 1, 2, 4} {
		x.Hold(x.Owner(f), f)
	}
	met := map[api.Errno]int{}
	for range 20000 {
		// Of the first two frames alone, which are environment 1's, or of all.
		frames := 2 + 6*d.roll(2)
		l := d.list(20, frames)
		env := 1 + d.roll(9)/8
		want := errOf(x, env, l)
		checkMay(t, x, env, l, want)
		met[want]++
	}
	for _, e := range []api.Errno{api.OK, api.ErrArg, api.ErrLong, api.ErrOwner} {
		if met[e] < 500 {
			t.Errorf("error %d was met %d times alone", e, met[e])
		}
	}
	checkHolds(t, x, 0, 2, 1, 0, 1, 0, 0, 0)
	for f := range 7 {
		if b, e := x.Read(x.Owner(f), f, 0, 256); !bytes.Equal(b, filled(f)) || e != api.OK {
			t.Errorf("frame %d became %x, %d", f, b, e)
		}
	}
}

func TestP84WhatIsCutIsFetchedAsThoseBytes(t *testing.T) {
	d := dice(84)
	x := made(t, 1, 2, 1, 2, 1)
	for f := range 5 {
		x.Hold(x.Owner(f), f)
	}
	cuts := 0
	for range 4000 {
		l := d.list(12, 5)
		all, e := Fetch(x, l)
		if e != api.OK {
			continue
		}
		if Size(l) != len(all) {
			t.Fatalf("Size(%v): %d; not %d", l, Size(l), len(all))
		}
		for range 20 {
			from := d.roll(len(all) + 1)
			n := d.roll(len(all) - from + 1)
			c, e := Cut(l, from, n)
			if e != api.OK || Size(c) != n || len(c) > len(l) {
				t.Fatalf("Cut(%v, %d, %d): %v, %d", l, from, n, c, e)
			}
			checkFetch(t, x, c, string(all[from:from+n]), api.OK)
			cuts++
		}
	}
	if cuts < 20000 {
		t.Errorf("%d were cut alone", cuts)
	}
}

func TestP84EachCutOfAList(t *testing.T) {
	x := made(t, 1, 2)
	x.Hold(1, 0)
	x.Hold(2, 1)
	l := []Piece{{0, 250, 6}, {1, 0, 1}, {0, 9, 0}, {0, 3, 7}, {1, 1, 9}}
	all, _ := Fetch(x, l)
	for from := range len(all) + 3 {
		for n := range len(all) + 3 {
			c, e := Cut(l, from, n)
			if from+n > len(all) {
				checkErr(t, "Cut", e, api.ErrArg)
				continue
			}
			checkErr(t, "Cut", e, api.OK)
			checkFetch(t, x, c, string(all[from:from+n]), api.OK)
			for _, p := range c {
				if p.Len < 1 {
					t.Fatalf("Cut(%v, %d, %d): %v", l, from, n, c)
				}
			}
		}
	}
}
