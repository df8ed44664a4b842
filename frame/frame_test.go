package frame

import (
	"math"
	"testing"

	"pantler/api"
)

// badNumbers are no environments and no frames, in whatever table, nor places and lengths.
var badNumbers = []int{-1, -2, -256, 257, 258, 1 << 16, math.MaxInt32, 1 << 32, 1<<32 + 1, math.MaxInt - 1, math.MaxInt, math.MinInt32, math.MinInt, math.MinInt + 1}

// made tells a new table of n frames.
func made(t *testing.T, n int) *Table {
	t.Helper()
	x, e := New(n)
	if x == nil || e != api.OK {
		t.Fatalf("New(%d): %v, %d", n, x, e)
	}
	return x
}

// checkAlloc asks for a frame.
func checkAlloc(t *testing.T, x *Table, env, want int, f api.Errno) {
	t.Helper()
	if n, e := x.Alloc(env); n != want || e != f {
		t.Fatalf("Alloc(%d): %d, %d; not %d, %d", env, n, e, want, f)
	}
}

// checkErr holds an error against the one that is wanted.
func checkErr(t *testing.T, call string, got, want api.Errno) {
	t.Helper()
	if got != want {
		t.Fatalf("%s: %d; not %d", call, got, want)
	}
}

// checkRead reads.
func checkRead(t *testing.T, x *Table, env, f, off, n int, want string, g api.Errno) {
	t.Helper()
	if b, e := x.Read(env, f, off, n); string(b) != want || e != g || e != api.OK && b != nil {
		t.Fatalf("Read(%d, %d, %d, %d): %q, %d; not %q, %d", env, f, off, n, b, e, want, g)
	}
}

// checkFetch fetches.
func checkFetch(t *testing.T, x *Table, f, off, n int, want string, g api.Errno) {
	t.Helper()
	if b, e := x.Fetch(f, off, n); string(b) != want || e != g || e != api.OK && b != nil {
		t.Fatalf("Fetch(%d, %d, %d): %q, %d; not %q, %d", f, off, n, b, e, want, g)
	}
}

// checkFrame asks for what is told of a frame.
func checkFrame(t *testing.T, x *Table, f, owner, holds int) {
	t.Helper()
	if x.Owner(f) != owner || x.Holds(f) != holds {
		t.Fatalf("frame %d: owner %d, %d holds; not %d, %d", f, x.Owner(f), x.Holds(f), owner, holds)
	}
}

// filled tells the bytes of a whole frame, which hang on what they begin with.
func filled(from int) []byte {
	b := make([]byte, 256)
	for i := range b {
		b[i] = byte(from + i*7)
	}
	return b
}

// zeros tells the bytes of a frame that is made new.
func zeros() string {
	return string(make([]byte, 256))
}

func TestP51New(t *testing.T) {
	for n := 1; n <= 256; n++ {
		x := made(t, n)
		if x.Size() != n || x.FreeCount() != n {
			t.Fatalf("New(%d): %d frames, %d are free", n, x.Size(), x.FreeCount())
		}
		for f := range n {
			checkFrame(t, x, f, 0, 0)
			checkRead(t, x, 1, f, 0, 1, "", api.ErrOwner)
		}
	}
}

func TestP51NewErrors(t *testing.T) {
	for _, n := range append([]int{0}, badNumbers...) {
		if x, e := New(n); x != nil || e != api.ErrArg {
			t.Errorf("New(%d): %v, %d", n, x, e)
		}
	}
}

func TestP51Example(t *testing.T) {
	x := made(t, 2)
	checkAlloc(t, x, 1, 0, api.OK)
	checkAlloc(t, x, 2, 1, api.OK)
	checkAlloc(t, x, 1, 0, api.ErrFull)
	checkErr(t, "Free(1, 1)", x.Free(1, 1), api.ErrOwner)
}

func TestP51AllocTheLeast(t *testing.T) {
	x := made(t, 256)
	for f := range 256 {
		checkAlloc(t, x, 1+f%2, f, api.OK)
		checkFrame(t, x, f, 1+f%2, 0)
		checkRead(t, x, 1+f%2, f, 0, 256, zeros(), api.OK)
		if x.FreeCount() != 255-f {
			t.Fatalf("%d are free behind %d", x.FreeCount(), f)
		}
	}
	checkAlloc(t, x, 1, 0, api.ErrFull)
	checkAlloc(t, x, 2, 0, api.ErrFull)
	for _, f := range []int{255, 17, 0, 200} {
		checkErr(t, "Free", x.Free(1+f%2, f), api.OK)
	}
	for _, f := range []int{0, 17, 200, 255} {
		checkAlloc(t, x, 2-f%2, f, api.OK)
		checkFrame(t, x, f, 2-f%2, 0)
	}
	checkAlloc(t, x, 1, 0, api.ErrFull)
}

func TestP51AllocErrors(t *testing.T) {
	x := made(t, 1)
	for _, env := range append([]int{0, 3}, badNumbers...) {
		checkAlloc(t, x, env, 0, api.ErrArg)
	}
	checkFrame(t, x, 0, 0, 0)
	checkAlloc(t, x, 2, 0, api.OK)
	checkAlloc(t, x, 1, 0, api.ErrFull)
	// What can't be is told ahead of that there is no room.
	checkAlloc(t, x, 0, 0, api.ErrArg)
	checkAlloc(t, x, 3, 0, api.ErrArg)
	checkFrame(t, x, 0, 2, 0)
}

func TestP51Free(t *testing.T) {
	x := made(t, 3)
	checkAlloc(t, x, 1, 0, api.OK)
	checkAlloc(t, x, 1, 1, api.OK)
	for f := range 2 {
		checkErr(t, "Write", x.Write(1, f, 0, filled(f+1)), api.OK)
	}
	checkErr(t, "Free", x.Free(1, 1), api.OK)
	checkFrame(t, x, 1, 0, 0)
	if x.FreeCount() != 2 {
		t.Errorf("%d are free", x.FreeCount())
	}
	// Who had it has it no more.
	checkErr(t, "Free", x.Free(1, 1), api.ErrOwner)
	checkRead(t, x, 1, 1, 0, 1, "", api.ErrOwner)
	checkErr(t, "Write", x.Write(1, 1, 0, []byte{1}), api.ErrOwner)
	checkErr(t, "Hold", x.Hold(1, 1), api.ErrOwner)
	// Who gets it finds nothing of what was there; the other frame stays.
	checkAlloc(t, x, 2, 1, api.OK)
	checkRead(t, x, 2, 1, 0, 256, zeros(), api.OK)
	checkRead(t, x, 1, 0, 0, 256, string(filled(1)), api.OK)
}

func TestP51FreeOfOneThatIsHeld(t *testing.T) {
	x := made(t, 1)
	checkAlloc(t, x, 1, 0, api.OK)
	checkErr(t, "Write", x.Write(1, 0, 0, filled(3)), api.OK)
	checkErr(t, "Hold", x.Hold(1, 0), api.OK)
	checkErr(t, "Hold", x.Hold(1, 0), api.OK)
	for holds := 2; holds > 0; holds-- {
		checkErr(t, "Free", x.Free(1, 0), api.ErrBusy)
		checkErr(t, "Free of another one's", x.Free(2, 0), api.ErrOwner)
		checkFrame(t, x, 0, 1, holds)
		checkRead(t, x, 1, 0, 0, 256, string(filled(3)), api.OK)
		checkErr(t, "Drop", x.Drop(0), api.OK)
	}
	checkErr(t, "Free", x.Free(1, 0), api.OK)
	checkFrame(t, x, 0, 0, 0)
}

func TestP51Give(t *testing.T) {
	x := made(t, 2)
	checkAlloc(t, x, 1, 0, api.OK)
	checkAlloc(t, x, 1, 1, api.OK)
	checkErr(t, "Write", x.Write(1, 0, 0, filled(5)), api.OK)
	checkErr(t, "Give", x.Give(1, 0, 2), api.OK)
	checkFrame(t, x, 0, 2, 0)
	checkFrame(t, x, 1, 1, 0)
	// Its bytes go with it.
	checkRead(t, x, 2, 0, 0, 256, string(filled(5)), api.OK)
	checkRead(t, x, 1, 0, 0, 256, "", api.ErrOwner)
	checkErr(t, "Give of what was given", x.Give(1, 0, 2), api.ErrOwner)
	// To give it to oneself changes nothing.
	checkErr(t, "Give", x.Give(2, 0, 2), api.OK)
	checkFrame(t, x, 0, 2, 0)
	checkErr(t, "Give", x.Give(2, 0, 1), api.OK)
	checkFrame(t, x, 0, 1, 0)
	checkRead(t, x, 1, 0, 0, 256, string(filled(5)), api.OK)
}

func TestP51GiveErrors(t *testing.T) {
	x := made(t, 3)
	checkAlloc(t, x, 1, 0, api.OK)
	checkAlloc(t, x, 2, 1, api.OK)
	for _, to := range append([]int{0, 3}, badNumbers...) {
		checkErr(t, "Give to nobody", x.Give(1, 0, to), api.ErrArg)
		checkErr(t, "Give of another one's to nobody", x.Give(1, 1, to), api.ErrOwner)
	}
	checkErr(t, "Hold", x.Hold(1, 0), api.OK)
	checkErr(t, "Give", x.Give(1, 0, 2), api.ErrBusy)
	checkErr(t, "Give to oneself", x.Give(1, 0, 1), api.ErrBusy)
	checkErr(t, "Give to nobody", x.Give(1, 0, 3), api.ErrArg)
	checkErr(t, "Give of another one's", x.Give(2, 0, 1), api.ErrOwner)
	checkErr(t, "Give of nobody's", x.Give(1, 2, 2), api.ErrOwner)
	checkFrame(t, x, 0, 1, 1)
	checkFrame(t, x, 1, 2, 0)
	checkFrame(t, x, 2, 0, 0)
}

// ownersCalls makes each call that asks for an owner, with arguments that may be but for env and f.
func ownersCalls(x *Table, env, f int) map[string]api.Errno {
	b, e := x.Read(env, f, 0, 1)
	if b != nil {
		e = api.ErrTale
	}
	return map[string]api.Errno{
		"Free":  x.Free(env, f),
		"Give":  x.Give(env, f, 1),
		"Read":  e,
		"Write": x.Write(env, f, 0, []byte{1}),
		"Hold":  x.Hold(env, f),
	}
}

func TestP51P52WrongEnvironmentsAndFrames(t *testing.T) {
	x := made(t, 4)
	checkAlloc(t, x, 1, 0, api.OK)
	checkAlloc(t, x, 2, 1, api.OK)
	checkErr(t, "Hold", x.Hold(2, 1), api.OK)
	check := func(env, f int, want api.Errno) {
		t.Helper()
		for call, e := range ownersCalls(x, env, f) {
			if e != want {
				t.Errorf("%s by %d of %d: %d; not %d", call, env, f, e, want)
			}
		}
	}
	for _, n := range badNumbers {
		check(n, 0, api.ErrArg)
		check(1, n, api.ErrArg)
		check(2, n, api.ErrArg)
		check(n, n, api.ErrArg)
	}
	for f := range 4 {
		check(0, f, api.ErrArg)
		check(3, f, api.ErrArg)
	}
	check(1, 4, api.ErrArg)
	check(1, 5, api.ErrArg)
	check(1, 256, api.ErrArg)
	check(2, 0, api.ErrOwner)
	check(1, 1, api.ErrOwner)
	for f := 2; f < 4; f++ {
		check(1, f, api.ErrOwner)
		check(2, f, api.ErrOwner)
	}
	for f, want := range [][2]int{{1, 0}, {2, 1}, {0, 0}, {0, 0}} {
		checkFrame(t, x, f, want[0], want[1])
	}
	checkRead(t, x, 1, 0, 0, 256, zeros(), api.OK)
	checkRead(t, x, 2, 1, 0, 256, zeros(), api.OK)
}

func TestP52ReadAndWrite(t *testing.T) {
	x := made(t, 2)
	checkAlloc(t, x, 1, 0, api.OK)
	checkAlloc(t, x, 1, 1, api.OK)
	want := make([]byte, 256)
	// Each place and length that may be.
	for off := 0; off <= 256; off++ {
		for n := 0; n <= 256-off; n += 1 + n/3 {
			b := filled(off + n)[:n]
			checkErr(t, "Write", x.Write(1, 0, off, b), api.OK)
			copy(want[off:], b)
			checkRead(t, x, 1, 0, off, n, string(b), api.OK)
			checkRead(t, x, 1, 0, 0, 256, string(want), api.OK)
		}
	}
	checkErr(t, "Write of nothing", x.Write(1, 0, 256, nil), api.OK)
	checkRead(t, x, 1, 0, 0, 256, string(want), api.OK)
	for off := 0; off <= 256; off++ {
		checkRead(t, x, 1, 0, off, 256-off, string(want[off:]), api.OK)
		checkRead(t, x, 1, 0, 0, off, string(want[:off]), api.OK)
	}
	checkRead(t, x, 1, 1, 0, 256, zeros(), api.OK)
}

// wrongSpans are places and lengths of bytes that don't lie within a frame.
var wrongSpans = [][2]int{
	{0, 257}, {1, 256}, {255, 2}, {256, 1}, {257, 0}, {257, -1}, {128, 129},
	{-1, 0}, {-1, 1}, {-1, 2}, {-256, 256}, {0, -1}, {1, -1}, {256, -1}, {256, -256}, {256, -257},
	{math.MaxInt, 0}, {math.MaxInt, 1}, {0, math.MaxInt}, {1, math.MaxInt}, {256, math.MaxInt},
	{math.MaxInt, math.MaxInt}, {math.MinInt, 0}, {math.MinInt, math.MinInt}, {math.MinInt, math.MaxInt}, {math.MaxInt, math.MinInt},
	{0, math.MinInt}, {1 << 32, 1}, {1, 1 << 32}, {1<<32 + 1, 1},
}

func TestP52ReadErrors(t *testing.T) {
	x := made(t, 2)
	checkAlloc(t, x, 1, 0, api.OK)
	for _, c := range wrongSpans {
		checkRead(t, x, 1, 0, c[0], c[1], "", api.ErrArg)
		// Whose it is is asked first.
		checkRead(t, x, 2, 0, c[0], c[1], "", api.ErrOwner)
		checkRead(t, x, 1, 1, c[0], c[1], "", api.ErrOwner)
		checkRead(t, x, 1, 2, c[0], c[1], "", api.ErrArg)
	}
}

func TestP52WriteErrors(t *testing.T) {
	x := made(t, 1)
	checkAlloc(t, x, 1, 0, api.OK)
	checkErr(t, "Write", x.Write(1, 0, 0, filled(9)), api.OK)
	long := filled(1)
	long = append(long, long...)
	for _, held := range []int{0, 1} {
		for _, c := range wrongSpans {
			if c[1] < 0 || c[1] > len(long) {
				continue
			}
			checkErr(t, "Write beyond the frame", x.Write(1, 0, c[0], long[:c[1]]), api.ErrArg)
			checkErr(t, "Write by another one", x.Write(2, 0, c[0], long[:c[1]]), api.ErrOwner)
		}
		for _, off := range append([]int{257}, badNumbers...) {
			checkErr(t, "Write of nothing beyond the frame", x.Write(1, 0, off, nil), api.ErrArg)
		}
		checkRead(t, x, 1, 0, 0, 256, string(filled(9)), api.OK)
		checkFrame(t, x, 0, 1, held)
		checkErr(t, "Hold", x.Hold(1, 0), api.OK)
	}
	for off := 0; off <= 256; off++ {
		checkErr(t, "Write to one that is held", x.Write(1, 0, off, long[:256-off]), api.ErrBusy)
		checkErr(t, "Write of nothing to one that is held", x.Write(1, 0, off, nil), api.ErrBusy)
	}
	checkRead(t, x, 1, 0, 0, 256, string(filled(9)), api.OK)
}

func TestP52NewMemory(t *testing.T) {
	x := made(t, 1)
	checkAlloc(t, x, 1, 0, api.OK)
	b := make([]byte, 4, 64)
	copy(b, "abcd")
	checkErr(t, "Write", x.Write(1, 0, 10, b), api.OK)
	if string(b) != "abcd" {
		t.Fatalf("Write changed what was handed in: %q", b)
	}
	b[0] = 'z'
	checkRead(t, x, 1, 0, 10, 4, "abcd", api.OK)
	checkErr(t, "Hold", x.Hold(1, 0), api.OK)
	read, _ := x.Read(1, 0, 10, 4)
	fetched, _ := x.Fetch(0, 10, 4)
	// What is written behind what is told doesn't come to the frame, either.
	_ = append(read, "wxyz"...)
	_ = append(fetched, "wxyz"...)
	copy(read, "----")
	copy(fetched, "++++")
	if string(read) != "----" || string(fetched) != "++++" {
		t.Errorf("what is told shares memory: %q, %q", read, fetched)
	}
	checkRead(t, x, 1, 0, 10, 8, "abcd\x00\x00\x00\x00", api.OK)
	checkFetch(t, x, 0, 10, 8, "abcd\x00\x00\x00\x00", api.OK)
	// What was told stays as it was, whatever becomes of the frame.
	kept, _ := x.Read(1, 0, 10, 4)
	checkErr(t, "Drop", x.Drop(0), api.OK)
	checkErr(t, "Write", x.Write(1, 0, 10, []byte("efgh")), api.OK)
	checkErr(t, "Free", x.Free(1, 0), api.OK)
	if string(kept) != "abcd" {
		t.Errorf("what was told is changed: %q", kept)
	}
}

func TestP52HoldAndDrop(t *testing.T) {
	x := made(t, 2)
	checkAlloc(t, x, 1, 0, api.OK)
	checkAlloc(t, x, 2, 1, api.OK)
	for holds := 1; holds <= 300; holds++ {
		checkErr(t, "Hold", x.Hold(2, 1), api.OK)
		checkFrame(t, x, 1, 2, holds)
		checkFrame(t, x, 0, 1, 0)
	}
	for holds := 299; holds >= 0; holds-- {
		checkErr(t, "Drop", x.Drop(1), api.OK)
		checkFrame(t, x, 1, 2, holds)
	}
	checkErr(t, "Drop", x.Drop(1), api.ErrArg)
	checkFrame(t, x, 1, 2, 0)
}

func TestP52DropErrors(t *testing.T) {
	x := made(t, 3)
	checkAlloc(t, x, 1, 0, api.OK)
	checkAlloc(t, x, 1, 1, api.OK)
	checkErr(t, "Hold", x.Hold(1, 0), api.OK)
	for _, f := range append([]int{1, 2, 3, 4, 256}, badNumbers...) {
		checkErr(t, "Drop", x.Drop(f), api.ErrArg)
	}
	for f, want := range [][2]int{{1, 1}, {1, 0}, {0, 0}} {
		checkFrame(t, x, f, want[0], want[1])
	}
}

func TestP52Fetch(t *testing.T) {
	x := made(t, 2)
	checkAlloc(t, x, 1, 0, api.OK)
	checkAlloc(t, x, 2, 1, api.OK)
	for f := range 2 {
		checkErr(t, "Write", x.Write(1+f, f, 0, filled(f)), api.OK)
		checkFetch(t, x, f, 0, 256, "", api.ErrArg)
		checkFetch(t, x, f, 0, 0, "", api.ErrArg)
		checkErr(t, "Hold", x.Hold(1+f, f), api.OK)
		for off := 0; off <= 256; off++ {
			checkFetch(t, x, f, off, 256-off, string(filled(f)[off:]), api.OK)
			checkFetch(t, x, f, 256-off, off/2, string(filled(f)[256-off:256-off+off/2]), api.OK)
		}
		checkFrame(t, x, f, 1+f, 1)
	}
	checkErr(t, "Drop", x.Drop(0), api.OK)
	checkFetch(t, x, 0, 0, 1, "", api.ErrArg)
	checkFetch(t, x, 1, 0, 1, "\x01", api.OK)
}

func TestP52FetchErrors(t *testing.T) {
	x := made(t, 3)
	checkAlloc(t, x, 1, 0, api.OK)
	checkErr(t, "Hold", x.Hold(1, 0), api.OK)
	for _, c := range wrongSpans {
		checkFetch(t, x, 0, c[0], c[1], "", api.ErrArg)
	}
	for _, f := range append([]int{1, 2, 3, 256}, badNumbers...) {
		checkFetch(t, x, f, 0, 1, "", api.ErrArg)
	}
}

func TestP53Counts(t *testing.T) {
	x := made(t, 5)
	checkAlloc(t, x, 1, 0, api.OK)
	checkAlloc(t, x, 2, 1, api.OK)
	checkAlloc(t, x, 1, 2, api.OK)
	checkErr(t, "Hold", x.Hold(2, 1), api.OK)
	checkErr(t, "Free", x.Free(1, 0), api.OK)
	for f, want := range [][2]int{{0, 0}, {2, 1}, {1, 0}, {0, 0}, {0, 0}} {
		checkFrame(t, x, f, want[0], want[1])
	}
	if x.Size() != 5 || x.FreeCount() != 3 {
		t.Errorf("%d frames, %d are free", x.Size(), x.FreeCount())
	}
	for _, f := range append([]int{5, 6, 256}, badNumbers...) {
		checkFrame(t, x, f, 0, 0)
	}
}

func TestP51P52P53OfNil(t *testing.T) {
	var x *Table
	for _, n := range append([]int{0, 1, 2, 3}, badNumbers...) {
		checkAlloc(t, x, n, 0, api.ErrNil)
		for call, e := range ownersCalls(x, n, n) {
			checkErr(t, call, e, api.ErrNil)
		}
		for call, e := range ownersCalls(x, 1, n) {
			checkErr(t, call, e, api.ErrNil)
		}
		checkErr(t, "Give", x.Give(1, 0, n), api.ErrNil)
		checkErr(t, "Write", x.Write(1, 0, n, nil), api.ErrNil)
		checkErr(t, "Drop", x.Drop(n), api.ErrNil)
		checkRead(t, x, 1, 0, n, n, "", api.ErrNil)
		checkFetch(t, x, n, 0, 1, "", api.ErrNil)
		checkFetch(t, x, 0, n, n, "", api.ErrNil)
		checkFrame(t, x, n, 0, 0)
	}
	if x.Size() != 0 || x.FreeCount() != 0 {
		t.Errorf("%d frames, %d are free", x.Size(), x.FreeCount())
	}
}

// Nothing is said of what a table that New didn't make answers, but that it does.
func TestP51P52P53OfAZeroValueNothingPanics(t *testing.T) {
	for _, n := range append([]int{0, 1, 2, 3}, badNumbers...) {
		var x Table
		x.Alloc(n)
		ownersCalls(&x, 1, n)
		ownersCalls(&x, n, n)
		x.Drop(n)
		x.Fetch(n, 0, 1)
		x.Owner(n)
		x.Holds(n)
		x.Size()
		x.FreeCount()
	}
}

func TestP51TablesStandApart(t *testing.T) {
	x, y := made(t, 2), made(t, 2)
	other := x
	checkAlloc(t, other, 1, 0, api.OK)
	checkErr(t, "Write", other.Write(1, 0, 0, []byte("a")), api.OK)
	// Who holds one sees what is done with it.
	checkRead(t, x, 1, 0, 0, 1, "a", api.OK)
	checkFrame(t, y, 0, 0, 0)
	checkAlloc(t, y, 2, 0, api.OK)
	checkRead(t, y, 2, 0, 0, 1, "\x00", api.OK)
	checkFrame(t, x, 0, 1, 0)
}

// kept is what the words of the chapter say of a frame.
type kept struct {
	owner, holds int
	text         string
}

// model is a table by the words of the chapter alone, held beside one that is made.
type model []kept

// newModel tells one of free frames.
func newModel(n int) model {
	m := make(model, n)
	for f := range m {
		m[f].text = zeros()
	}
	return m
}

// fault tells the error that all calls with an owner have in common.
func (m model) fault(env, f int) api.Errno {
	switch {
	case env != 1 && env != 2:
		return api.ErrArg
	case f < 0 || f >= len(m):
		return api.ErrArg
	case m[f].owner != env:
		return api.ErrOwner
	}
	return api.OK
}

// step is a call, and what it is given.
type step struct {
	op, env, f, to, off, n int
	b                      []byte
}

// alloc does Alloc.
func (m model) alloc(s step) (string, int, api.Errno) {
	if s.env != 1 && s.env != 2 {
		return "", 0, api.ErrArg
	}
	for f := range m {
		if m[f].owner == 0 {
			m[f].owner = s.env
			return "", f, api.OK
		}
	}
	return "", 0, api.ErrFull
}

// unowned does the calls that ask for no owner.
func (m model) unowned(s step) (string, int, api.Errno) {
	if s.f < 0 || s.f >= len(m) || m[s.f].holds == 0 {
		return "", 0, api.ErrArg
	}
	if s.op == 7 {
		m[s.f].holds--
		return "", 0, api.OK
	}
	if s.off < 0 || s.n < 0 || s.off+s.n > 256 {
		return "", 0, api.ErrArg
	}
	return m[s.f].text[s.off : s.off+s.n], 0, api.OK
}

// owned does the calls that ask for an owner.
func (m model) owned(s step) (string, int, api.Errno) {
	if e := m.fault(s.env, s.f); e != api.OK {
		return "", 0, e
	}
	k := &m[s.f]
	outside := s.op == 5 && (s.off < 0 || s.off+len(s.b) > 256) || s.op == 4 && (s.off < 0 || s.n < 0 || s.off+s.n > 256)
	switch {
	case outside || s.op == 3 && s.to != 1 && s.to != 2:
		return "", 0, api.ErrArg
	case k.holds > 0 && (s.op == 2 || s.op == 3 || s.op == 5):
		return "", 0, api.ErrBusy
	}
	switch s.op {
	case 2:
		*k = kept{text: zeros()}
	case 3:
		k.owner = s.to
	case 4:
		return k.text[s.off : s.off+s.n], 0, api.OK
	case 5:
		k.text = k.text[:s.off] + string(s.b) + k.text[s.off+len(s.b):]
	case 6:
		k.holds++
	}
	return "", 0, api.OK
}

// do does a call by the words.
func (m model) do(s step) (string, int, api.Errno) {
	switch s.op {
	case 1:
		return m.alloc(s)
	case 7, 8:
		return m.unowned(s)
	}
	return m.owned(s)
}

// do does a call of the table.
func do(x *Table, s step) (string, int, api.Errno) {
	switch s.op {
	case 1:
		f, e := x.Alloc(s.env)
		return "", f, e
	case 2:
		return "", 0, x.Free(s.env, s.f)
	case 3:
		return "", 0, x.Give(s.env, s.f, s.to)
	case 4:
		b, e := x.Read(s.env, s.f, s.off, s.n)
		return string(b), 0, e
	case 5:
		return "", 0, x.Write(s.env, s.f, s.off, s.b)
	case 6:
		return "", 0, x.Hold(s.env, s.f)
	case 7:
		return "", 0, x.Drop(s.f)
	}
	b, e := x.Fetch(s.f, s.off, s.n)
	return string(b), 0, e
}

// check holds all that the table tells against the model.
func (m model) check(t *testing.T, x *Table) {
	t.Helper()
	free := 0
	for f, k := range m {
		checkFrame(t, x, f, k.owner, k.holds)
		if k.holds > 0 {
			checkFetch(t, x, f, 0, 256, k.text, api.OK)
		}
		if k.owner == 0 {
			free++
			continue
		}
		checkRead(t, x, k.owner, f, 0, 256, k.text, api.OK)
		checkRead(t, x, 3-k.owner, f, 0, 256, "", api.ErrOwner)
	}
	if x.FreeCount() != free || x.Size() != len(m) {
		t.Fatalf("%d frames, %d are free; not %d, %d", x.Size(), x.FreeCount(), len(m), free)
	}
}

// dice tells numbers that look thrown, the same ones each time.
type dice uint64

// roll tells one from 0 to n - 1.
func (d *dice) roll(n int) int {
	*d = *d*6364136223846793005 + 1442695040888963407
	return int(uint64(*d) >> 33 % uint64(n))
}

// step throws a call for a table of n frames; now and then something is just beyond what may be.
func (d *dice) step(n int) step {
	s := step{op: 1 + d.roll(8), env: 1 + d.roll(2), f: d.roll(n), to: 1 + d.roll(2), off: d.roll(257)}
	s.n = d.roll(257 - s.off)
	switch d.roll(20) {
	case 0:
		s.env = d.roll(2) * 3
	case 1:
		s.f = -1 + d.roll(2)*(n+1)
	case 2:
		s.to = d.roll(2) * 3
	case 3:
		s.off = -1
	case 4:
		s.n = -1
	case 5:
		s.n = 257 - s.off
	}
	s.b = filled(d.roll(256))
	s.b = append(s.b, 1)[:max(s.n, 0)]
	return s
}

func TestP54AsTheWordsSay(t *testing.T) {
	d := dice(5)
	for _, n := range []int{1, 2, 3, 7, 16} {
		x, m := made(t, n), newModel(n)
		met := map[api.Errno]int{}
		for range 4000 {
			s := d.step(n)
			text, f, e := m.do(s)
			if gotText, gotF, gotE := do(x, s); gotText != text || gotF != f || gotE != e {
				t.Fatalf("%d frames, %+v: %q, %d, %d; not %q, %d, %d", n, s, gotText, gotF, gotE, text, f, e)
			}
			m.check(t, x)
			met[e]++
		}
		for _, e := range []api.Errno{api.OK, api.ErrArg, api.ErrFull, api.ErrOwner, api.ErrBusy} {
			if met[e] < 20 {
				t.Errorf("%d frames: error %d was met %d times alone", n, e, met[e])
			}
		}
	}
}

func TestP54BytesOfAFrameThatIsHeldStay(t *testing.T) {
	d := dice(11)
	for _, env := range []int{1, 2} {
		x := made(t, 4)
		for range 3 {
			x.Alloc(env)
		}
		checkErr(t, "Write", x.Write(env, 1, 0, filled(77)), api.OK)
		checkErr(t, "Hold", x.Hold(env, 1), api.OK)
		for range 5000 {
			s := d.step(4)
			if s.op == 7 && s.f == 1 && x.Holds(1) == 1 {
				continue // the last hold is never dropped
			}
			do(x, s)
			checkFetch(t, x, 1, 0, 256, string(filled(77)), api.OK)
			if x.Owner(1) != env {
				t.Fatalf("%+v: the owner became %d", s, x.Owner(1))
			}
		}
	}
}

func TestP54NobodyButItsOwnerChangesOrReadsAFrame(t *testing.T) {
	d := dice(13)
	for _, env := range []int{1, 2} {
		x := made(t, 3)
		for f := range 3 {
			checkAlloc(t, x, env, f, api.OK)
			checkErr(t, "Write", x.Write(env, f, 0, filled(f)), api.OK)
		}
		for range 5000 {
			s := d.step(3)
			s.env = 3 - env
			// Of a frame that isn't held nothing can be fetched, either.
			if text, _, e := do(x, s); e == api.OK || text != "" {
				t.Fatalf("%+v: %q, %d", s, text, e)
			}
		}
		for f := range 3 {
			checkFrame(t, x, f, env, 0)
			checkRead(t, x, env, f, 0, 256, string(filled(f)), api.OK)
		}
	}
}
