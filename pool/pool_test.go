package pool

import (
	"bytes"
	"math"
	"slices"
	"testing"

	"pantler/api"
	"pantler/gather"
	"pantler/kern"
	"pantler/sums"
)

// badNumbers are no frames, no blocks, and neither how many slots nor how many bytes there are.
var badNumbers = []int{-1, -2, -256, 257, 258, 512, 513, 1 << 16, math.MaxInt32, 1 << 32, 1<<32 + 1, math.MaxInt - 1, math.MaxInt, math.MinInt32, math.MinInt, math.MinInt + 1}

// filled tells so many bytes, which hang on what they begin with.
func filled(from byte, n int) []byte {
	b := make([]byte, n)
	for i := range b {
		b[i] = from + byte(i*7)
	}
	return b
}

// kernel tells a new kernel of so many frames and of 16 blocks, of which environment 1's 12 are filled with their numbers.
func kernel(t *testing.T, frames int) *kern.Kernel {
	t.Helper()
	k, e := kern.New(frames, 16)
	if e != api.OK {
		t.Fatalf("kern.New(%d, 16): %d", frames, e)
	}
	for b := range 12 {
		call(t, k, kern.Call{Op: 7, Env: 1, A: b, Bytes: filled(byte(b), 256)})
	}
	return k
}

// call is a call of the kernel that goes well.
func call(t *testing.T, k *kern.Kernel, c kern.Call) kern.Answer {
	t.Helper()
	a, e := k.Call(c)
	if e != api.OK {
		t.Fatalf("Call(%+v): %d", c, e)
	}
	return a
}

// made tells a new pool of so many slots, of a kernel of as many frames.
func made(t *testing.T, n int) (*kern.Kernel, *Pool) {
	t.Helper()
	k := kernel(t, n)
	p, e := New(k, n)
	if p == nil || e != api.OK {
		t.Fatalf("New(%d): %v, %d", n, p, e)
	}
	return k, p
}

// get is a Get of the whole block, with a part by which it is known, that goes well; the frame f is wanted.
func get(t *testing.T, p *Pool, block, f int) {
	t.Helper()
	if got, e := p.Get(block, 256, told(block)); got != f || e != api.OK {
		t.Fatalf("Get(%d): %d, %d; not %d", block, got, e, f)
	}
}

// told is a part that a block's bytes don't have, so that it is seen where it comes from.
func told(block int) complex128 { return complex(float64(1000+block), float64(2000+block)) }

// head is a Head that goes well; the frame f is wanted.
func head(t *testing.T, p *Pool, text string, f int) {
	t.Helper()
	if got, e := p.Head([]byte(text)); got != f || e != api.OK {
		t.Fatalf("Head(%q): %d, %d; not %d", text, got, e, f)
	}
}

// unpin takes a pin of each of these frames.
func unpin(t *testing.T, p *Pool, l ...int) {
	t.Helper()
	for _, f := range l {
		if e := p.Unpin(f); e != api.OK {
			t.Fatalf("Unpin(%d): %d", f, e)
		}
	}
}

// hold lets a transfer of a byte of the frame f wait.
func hold(t *testing.T, k *kern.Kernel, f int) {
	t.Helper()
	call(t, k, kern.Call{Op: 11, Env: 1, List: []gather.Piece{{Frame: f, Len: 1}}})
}

// depart lets the first transfer go.
func depart(t *testing.T, k *kern.Kernel) {
	t.Helper()
	if _, _, e := k.Depart(); e != api.OK {
		t.Fatalf("Depart: %d", e)
	}
}

// checkFrame compares a frame's first bytes.
func checkFrame(t *testing.T, k *kern.Kernel, f int, want []byte) {
	t.Helper()
	if got := call(t, k, kern.Call{Op: 4, Env: 1, A: f, C: len(want)}).Bytes; !bytes.Equal(got, want) {
		t.Fatalf("frame %d has %q, not %q", f, got, want)
	}
}

// checkRefused tells that neither Get nor Head gets a slot.
func checkRefused(t *testing.T, p *Pool, block int) {
	t.Helper()
	if f, e := p.Get(block, 256, 0); f != 0 || e != api.ErrPinned {
		t.Fatalf("Get(%d): %d, %d; not ErrPinned", block, f, e)
	}
	if f, e := p.Head([]byte("a")); f != 0 || e != api.ErrPinned {
		t.Fatalf("Head: %d, %d; not ErrPinned", f, e)
	}
}

// checkHas compares which of the kernel's blocks are there.
func checkHas(t *testing.T, p *Pool, want ...int) {
	t.Helper()
	var got []int
	for b := range 16 {
		if p.Has(b) {
			got = append(got, b)
		}
	}
	if !slices.Equal(got, want) {
		t.Fatalf("it has the blocks %v, not %v", got, want)
	}
}

// checkPins compares the pins of the frames from 0 on.
func checkPins(t *testing.T, p *Pool, want ...int) {
	t.Helper()
	for f, n := range want {
		if got := p.Pins(f); got != n {
			t.Fatalf("frame %d has %d pins, not %d", f, got, n)
		}
	}
}

// checkFills compares how many blocks were read.
func checkFills(t *testing.T, p *Pool, want int) {
	t.Helper()
	if got := p.Fills(); got != want {
		t.Fatalf("%d blocks were read, not %d", got, want)
	}
}

// checkPart compares a part.
func checkPart(t *testing.T, p *Pool, want complex128, l ...gather.Piece) {
	t.Helper()
	if got, e := p.Part(l); got != want || e != api.OK {
		t.Fatalf("Part(%v): %v, %d; not %v", l, got, e, want)
	}
}

// checkNoPart looks for an error of Part.
func checkNoPart(t *testing.T, p *Pool, want api.Errno, l ...gather.Piece) {
	t.Helper()
	if got, e := p.Part(l); got != 0 || e != want {
		t.Fatalf("Part(%v): %v, %d; not the error %d", l, got, e, want)
	}
}

// partOf is the part of b.
func partOf(b []byte) complex128 {
	z, e := sums.Part(b)
	if e != api.OK {
		panic("a test's bytes are too many")
	}
	return z
}

func TestP131NewRefuses(t *testing.T) {
	for _, n := range append([]int{0, 1, 256}, badNumbers...) {
		if p, e := New(nil, n); p != nil || e != api.ErrNil {
			t.Errorf("New(nil, %d): %v, %d", n, p, e)
		}
	}
	k := kernel(t, 4)
	for _, n := range append([]int{0}, badNumbers...) {
		if p, e := New(k, n); p != nil || e != api.ErrArg || k.Table().FreeCount() != 4 {
			t.Errorf("New(%d): %v, %d; %d frames are free", n, p, e, k.Table().FreeCount())
		}
	}
}

func TestP131NewTakesFrames(t *testing.T) {
	for _, n := range []int{1, 2, 255, 256} {
		k, p := made(t, n)
		if k.Table().FreeCount() != 0 || !k.Owned(1, 0) || !k.Owned(1, n-1) {
			t.Errorf("New(%d): %d frames are free", n, k.Table().FreeCount())
		}
		checkHas(t, p)
		checkPins(t, p, make([]int, n)...)
		checkFills(t, p, 0)
	}
	k := kernel(t, 5)
	call(t, k, kern.Call{Op: 1, Env: 2})
	p, e := New(k, 2)
	if e != api.OK || k.Owned(1, 0) || !k.Owned(1, 1) || !k.Owned(1, 2) || k.Table().FreeCount() != 2 {
		t.Fatalf("New: %d, %d frames are free", e, k.Table().FreeCount())
	}
	get(t, p, 3, 1)
	head(t, p, "a", 2)
	checkRefused(t, p, 4)
	other, e := New(k, 2)
	if e != api.OK {
		t.Fatalf("New: %d", e)
	}
	get(t, other, 3, 3)
	checkPins(t, p, 0, 1, 1, 0, 0)
	checkPins(t, other, 0, 0, 0, 1, 0)
}

func TestP131NewTakesFramesBack(t *testing.T) {
	k := kernel(t, 6)
	call(t, k, kern.Call{Op: 1, Env: 1})
	call(t, k, kern.Call{Op: 1, Env: 2})
	for _, n := range []int{5, 6, 256} {
		if p, e := New(k, n); p != nil || e != api.ErrFull || k.Table().FreeCount() != 4 || !k.Owned(1, 0) || !k.Owned(2, 1) {
			t.Errorf("New(%d): %v, %d; %d frames are free", n, p, e, k.Table().FreeCount())
		}
	}
	if _, e := New(k, 4); e != api.OK || k.Table().FreeCount() != 0 {
		t.Errorf("New(4): %d", e)
	}
	if p, e := New(k, 1); p != nil || e != api.ErrFull || !k.Owned(1, 5) {
		t.Errorf("New(1): %v, %d", p, e)
	}
}

func TestP131GetReadsOnce(t *testing.T) {
	k, p := made(t, 3)
	get(t, p, 5, 0)
	get(t, p, 0, 1)
	get(t, p, 11, 2)
	for f, b := range []byte{5, 0, 11} {
		checkFrame(t, k, f, filled(b, 256))
	}
	checkHas(t, p, 0, 5, 11)
	checkPins(t, p, 1, 1, 1)
	checkFills(t, p, 3)
	for i := range 3 {
		get(t, p, 0, 1)
		checkPins(t, p, 1, 2+i, 1)
	}
	checkFills(t, p, 3)
	// What is had is told whether the disk has power or not, and is not looked at again.
	k.Disk().Cut()
	get(t, p, 5, 0)
	unpin(t, p, 0, 0)
	checkPins(t, p, 0, 4, 1)
	get(t, p, 5, 0)
	checkPins(t, p, 1, 4, 1)
	checkFills(t, p, 3)
}

func TestP131GetRefuses(t *testing.T) {
	k, p := made(t, 1)
	k.Disk().Cut()
	for _, n := range badNumbers {
		if f, e := p.Get(3, n, 0); f != 0 || e != api.ErrArg {
			t.Errorf("Get(3, %d): %d, %d", n, f, e)
		}
	}
	if e := k.Disk().Revive(16); e != api.OK {
		t.Fatalf("Revive: %d", e)
	}
	get(t, p, 3, 0)
	for _, n := range badNumbers {
		for _, b := range []int{3, 4, -1} {
			if f, e := p.Get(b, n, 0); f != 0 || e != api.ErrArg {
				t.Errorf("Get(%d, %d): %d, %d", b, n, f, e)
			}
		}
	}
	checkPins(t, p, 1)
	// That no slot can be taken comes ahead of what the kernel says of the block.
	for _, b := range append([]int{4, 12, 16}, badNumbers...) {
		checkRefused(t, p, b)
	}
	checkHas(t, p, 3)
	checkPins(t, p, 1)
	checkFills(t, p, 1)
}

func TestP131GetOfWhatCannotBeRead(t *testing.T) {
	k, p := made(t, 2)
	refused := func(want api.Errno, blocks ...int) {
		t.Helper()
		for _, b := range blocks {
			if f, e := p.Get(b, 256, 0); f != 0 || e != want {
				t.Fatalf("Get(%d): %d, %d; not %d", b, f, e, want)
			}
		}
	}
	refused(api.ErrBlock, append([]int{16, 17}, badNumbers...)...)
	refused(api.ErrOwner, 12, 15)
	k.Disk().Cut()
	refused(api.ErrPower, 3, 12, 16, -1)
	if e := k.Disk().Revive(16); e != api.OK {
		t.Fatalf("Revive: %d", e)
	}
	checkFills(t, p, 0)
	checkPins(t, p, 0, 0)
	// The slot that was taken is empty, and the next one is that, too.
	get(t, p, 3, 0)
	get(t, p, 4, 1)
	unpin(t, p, 0)
	refused(api.ErrOwner, 12)
	checkHas(t, p, 4)
	checkPins(t, p, 0, 1)
	refused(api.ErrBlock, 16)
	checkHas(t, p, 4)
	unpin(t, p, 1)
	refused(api.ErrBlock, 16)
	checkHas(t, p, 4)
	checkFills(t, p, 2)
	get(t, p, 5, 0)
	checkHas(t, p, 4, 5)
}

func TestP131HandGoesRound(t *testing.T) {
	_, p := made(t, 3)
	for b := range 3 {
		get(t, p, b, b)
		unpin(t, p, b)
	}
	// All have marks, which the first round takes from them.
	get(t, p, 3, 0)
	unpin(t, p, 0)
	checkHas(t, p, 1, 2, 3)
	// The hand is at 1, which has no mark; a Get gives it one again.
	get(t, p, 1, 1)
	unpin(t, p, 1)
	get(t, p, 4, 2)
	checkHas(t, p, 1, 3, 4)
	// The hand is at 0, which has a mark, as has 2 alone of the others.
	unpin(t, p, 2)
	get(t, p, 5, 1)
	checkHas(t, p, 3, 4, 5)
	// The hand is at 2, which has a mark; 0 has none any more.
	get(t, p, 6, 0)
	checkHas(t, p, 4, 5, 6)
	get(t, p, 7, 2)
	checkRefused(t, p, 8)
	checkHas(t, p, 5, 6, 7)
}

func TestP131HandPassesPins(t *testing.T) {
	_, p := made(t, 3)
	for b := range 3 {
		get(t, p, b, b)
	}
	// Whoever has pins loses its mark as well; the hand has gone round twice, and is where it was.
	checkRefused(t, p, 3)
	unpin(t, p, 2)
	get(t, p, 3, 2)
	checkHas(t, p, 0, 1, 3)
	unpin(t, p, 0, 1, 2)
	get(t, p, 4, 0)
	get(t, p, 5, 1)
	get(t, p, 6, 2)
	checkHas(t, p, 4, 5, 6)
}

func TestP131RefusedGetTakesMarks(t *testing.T) {
	_, p := made(t, 2)
	get(t, p, 0, 0)
	get(t, p, 1, 1)
	checkRefused(t, p, 2)
	get(t, p, 0, 0)
	unpin(t, p, 0, 0, 1)
	// 0 alone has a mark, since it was asked for again.
	get(t, p, 2, 1)
	checkHas(t, p, 0, 2)
}

func TestP131EmptyOnesFirst(t *testing.T) {
	_, p := made(t, 4)
	for b := range 4 {
		get(t, p, b, b)
		unpin(t, p, b)
	}
	get(t, p, 4, 0)
	// The hand is at 1, which has no mark.
	p.Forget([]int{3, 2})
	get(t, p, 5, 2)
	get(t, p, 6, 3)
	checkHas(t, p, 1, 4, 5, 6)
	// The hand didn't go on for those that were empty.
	get(t, p, 7, 1)
	checkHas(t, p, 4, 5, 6, 7)
}

func TestP131HeldFramesAreNotTaken(t *testing.T) {
	k, p := made(t, 2)
	get(t, p, 0, 0)
	get(t, p, 1, 1)
	hold(t, k, 0)
	hold(t, k, 0)
	unpin(t, p, 0)
	checkRefused(t, p, 2)
	checkHas(t, p, 0, 1)
	get(t, p, 0, 0)
	unpin(t, p, 0, 1)
	get(t, p, 2, 1)
	checkHas(t, p, 0, 2)
	depart(t, k)
	checkRefused(t, p, 3)
	depart(t, k)
	get(t, p, 3, 0)
	checkHas(t, p, 2, 3)
	checkFrame(t, k, 0, filled(3, 256))
	// An empty one that is held isn't taken, either; one that isn't, and has a block, is.
	hold(t, k, 0)
	p.Forget([]int{3})
	unpin(t, p, 0)
	checkRefused(t, p, 4)
	unpin(t, p, 1)
	head(t, p, "a", 1)
	checkRefused(t, p, 4)
	depart(t, k)
	get(t, p, 4, 0)
}

func TestP132Head(t *testing.T) {
	k, p := made(t, 2)
	text := filled(9, 256)
	for n := range 257 {
		f, e := p.Head(text[:n])
		if f != 0 || e != api.OK || p.Pins(0) != 1 {
			t.Fatalf("Head of %d bytes: %d, %d; %d pins", n, f, e, p.Pins(0))
		}
		checkFrame(t, k, 0, text[:n])
		checkPart(t, p, partOf(text[:n]), gather.Piece{Len: n})
		unpin(t, p, 0)
	}
	if !bytes.Equal(text, filled(9, 256)) {
		t.Error("Head changed what it was given")
	}
	// Two heads of the same bytes are two; none of them is a block.
	head(t, p, "abc", 0)
	head(t, p, "abc", 1)
	checkHas(t, p)
	checkFills(t, p, 0)
	// Behind a head's bytes stands what stood there.
	behind := append([]byte("abc"), text[3:]...)
	checkFrame(t, k, 0, behind)
	checkPart(t, p, partOf(behind), gather.Piece{Len: 256})
	checkPart(t, p, partOf(behind[:4]), gather.Piece{Len: 4})
}

func TestP132HeadRefuses(t *testing.T) {
	_, p := made(t, 1)
	for _, n := range []int{257, 258, 512, 1 << 16, 1<<24 + 1} {
		if f, e := p.Head(make([]byte, n)); f != 0 || e != api.ErrLong {
			t.Errorf("Head of %d bytes: %d, %d", n, f, e)
		}
	}
	head(t, p, "", 0)
	if f, e := p.Head(make([]byte, 257)); f != 0 || e != api.ErrLong {
		t.Errorf("Head: %d, %d", f, e)
	}
	checkRefused(t, p, 3)
	unpin(t, p, 0)
	if f, e := p.Head(nil); f != 0 || e != api.OK || p.Pins(0) != 1 {
		t.Errorf("Head of nothing: %d, %d", f, e)
	}
}

func TestP132HeadTakesBlocks(t *testing.T) {
	_, p := made(t, 2)
	get(t, p, 3, 0)
	get(t, p, 4, 1)
	unpin(t, p, 0, 1)
	head(t, p, "a", 0)
	checkHas(t, p, 4)
	head(t, p, "b", 1)
	checkHas(t, p)
	// What was a block's part and how many bytes it has are no more.
	checkPart(t, p, 'a', gather.Piece{Len: 1})
	unpin(t, p, 0)
	// A head that nobody needs is empty at once.
	get(t, p, 4, 0)
	unpin(t, p, 0, 1)
	get(t, p, 5, 1)
	checkHas(t, p, 4, 5)
}

func TestP132PinAndUnpin(t *testing.T) {
	_, p := made(t, 3)
	get(t, p, 3, 0)
	head(t, p, "a", 1)
	for i := range 5 {
		if p.Pin(0) != api.OK || p.Pin(1) != api.OK {
			t.Fatal("Pin")
		}
		checkPins(t, p, 2+i, 2+i, 0)
	}
	for i := range 5 {
		unpin(t, p, 0, 1)
		checkPins(t, p, 5-i, 5-i, 0)
	}
	unpin(t, p, 0, 1)
	checkHas(t, p, 3)
	for _, f := range append([]int{0, 1, 2, 3, 256}, badNumbers...) {
		if e := p.Pin(f); e != api.ErrArg {
			t.Errorf("Pin(%d): %d", f, e)
		}
		if e := p.Unpin(f); e != api.ErrArg {
			t.Errorf("Unpin(%d): %d", f, e)
		}
	}
	checkPins(t, p, 0, 0, 0)
	checkHas(t, p, 3)
	get(t, p, 3, 0)
	checkFills(t, p, 1)
}

func TestP132PinsOfOtherFrames(t *testing.T) {
	k := kernel(t, 4)
	call(t, k, kern.Call{Op: 1, Env: 1})
	p, e := New(k, 2)
	if e != api.OK {
		t.Fatalf("New: %d", e)
	}
	get(t, p, 0, 1)
	for _, f := range []int{0, 2, 3} {
		if p.Pin(f) != api.ErrArg || p.Unpin(f) != api.ErrArg || p.Pins(f) != 0 {
			t.Errorf("frame %d has pins", f)
		}
	}
	checkPins(t, p, 0, 1, 0, 0)
}

func TestP132Forget(t *testing.T) {
	k, p := made(t, 3)
	get(t, p, 3, 0)
	get(t, p, 4, 1)
	get(t, p, 5, 2)
	unpin(t, p, 1, 2)
	p.Forget(nil)
	p.Forget(append([]int{0, 1, 12, 16}, badNumbers...))
	checkHas(t, p, 3, 4, 5)
	p.Forget([]int{7, 4, 3, 3, 4})
	checkHas(t, p, 5)
	checkPins(t, p, 1, 0, 0)
	// What is pinned keeps its bytes, and what was told of them; the block itself is read again.
	call(t, k, kern.Call{Op: 7, Env: 1, A: 3, Bytes: filled(99, 256)})
	get(t, p, 3, 1)
	checkFills(t, p, 4)
	checkFrame(t, k, 0, filled(3, 256))
	checkFrame(t, k, 1, filled(99, 256))
	checkPart(t, p, told(3), gather.Piece{Len: 256})
	get(t, p, 3, 1)
	checkPins(t, p, 1, 2, 0)
	p.Forget([]int{3})
	checkPins(t, p, 1, 2, 0)
	if p.Pin(0) != api.OK {
		t.Fatal("Pin")
	}
	unpin(t, p, 0)
	checkPins(t, p, 1, 2, 0)
	// Without pins a slot that was forgotten is empty, and so is taken ahead of those that have something.
	unpin(t, p, 0)
	get(t, p, 6, 0)
	unpin(t, p, 1, 1)
	get(t, p, 7, 1)
	checkHas(t, p, 5, 6, 7)
}

func TestP132ForgetBlockZero(t *testing.T) {
	_, p := made(t, 2)
	head(t, p, "a", 0)
	p.Forget([]int{0})
	checkPins(t, p, 1)
	checkHas(t, p)
	get(t, p, 0, 1)
	checkHas(t, p, 0)
	p.Forget([]int{0})
	checkHas(t, p)
	checkPins(t, p, 1, 1)
}

func TestP133Part(t *testing.T) {
	_, p := made(t, 3)
	get(t, p, 3, 0)
	if f, e := p.Get(4, 100, 7+9i); f != 1 || e != api.OK {
		t.Fatalf("Get: %d, %d", f, e)
	}
	head(t, p, "abcde", 2)
	three, four := filled(3, 256), filled(4, 256)
	checkPart(t, p, 0)
	checkPart(t, p, told(3), gather.Piece{Len: 256})
	checkPart(t, p, 7+9i, gather.Piece{Frame: 1, Len: 100})
	checkPart(t, p, partOf([]byte("abcde")), gather.Piece{Frame: 2, Len: 5})
	// All others are of the bytes themselves.
	checkPart(t, p, partOf(three[:255]), gather.Piece{Len: 255})
	checkPart(t, p, partOf(three[1:]), gather.Piece{Off: 1, Len: 255})
	checkPart(t, p, partOf(four), gather.Piece{Frame: 1, Len: 256})
	checkPart(t, p, partOf(four[:99]), gather.Piece{Frame: 1, Len: 99})
	checkPart(t, p, partOf(four[100:200]), gather.Piece{Frame: 1, Off: 100, Len: 100})
	checkPart(t, p, partOf([]byte("cd")), gather.Piece{Frame: 2, Off: 2, Len: 2})
	checkPart(t, p, 0, gather.Piece{Frame: 2, Off: 256}, gather.Piece{}, gather.Piece{Frame: 1})
	// Behind an odd number of bytes even places are odd ones.
	checkPart(t, p, partOf([]byte("abcde"))+complex(9, 7), gather.Piece{Frame: 2, Len: 5}, gather.Piece{Frame: 1, Len: 100})
	checkPart(t, p, 7+9i+partOf([]byte("bcdeb")), gather.Piece{Frame: 1, Len: 100}, gather.Piece{Frame: 2, Off: 1, Len: 4}, gather.Piece{Frame: 2, Off: 1, Len: 1})
	checkPart(t, p, partOf([]byte("aabcdee")), gather.Piece{Frame: 2, Len: 1}, gather.Piece{Frame: 2, Len: 5}, gather.Piece{Frame: 2, Off: 4, Len: 1})
	// As many pieces and bytes as no transfer has.
	checkPart(t, p, 1000*told(3), slices.Repeat([]gather.Piece{{Len: 256}}, 1000)...)
}

func TestP133PartOfToldBytes(t *testing.T) {
	_, p := made(t, 2)
	if f, e := p.Get(3, 0, 5+6i); f != 0 || e != api.OK {
		t.Fatalf("Get: %d, %d", f, e)
	}
	// Of a block of which no bytes are told the part of those that was told.
	checkPart(t, p, 5+6i, gather.Piece{})
	checkPart(t, p, 0, gather.Piece{Off: 1})
	checkPart(t, p, 3+10i, gather.Piece{Len: 2})
	// Whoever gets it again tells nothing.
	if f, e := p.Get(3, 2, 1); f != 0 || e != api.OK {
		t.Fatalf("Get: %d, %d", f, e)
	}
	checkPart(t, p, 5+6i, gather.Piece{})
	checkPart(t, p, 3+10i, gather.Piece{Len: 2})
	// Once it went, it does.
	p.Forget([]int{3})
	unpin(t, p, 0, 0)
	if f, e := p.Get(3, 2, 1); f != 0 || e != api.OK {
		t.Fatalf("Get: %d, %d", f, e)
	}
	checkPart(t, p, 0, gather.Piece{})
	checkPart(t, p, 1, gather.Piece{Len: 2})
}

func TestP133PartRefuses(t *testing.T) {
	k := kernel(t, 5)
	call(t, k, kern.Call{Op: 1, Env: 1})
	p, e := New(k, 3)
	if e != api.OK {
		t.Fatalf("New: %d", e)
	}
	get(t, p, 3, 1)
	get(t, p, 4, 2)
	unpin(t, p, 2)
	good := gather.Piece{Frame: 1, Len: 256}
	// Frames that aren't the pool's, or that nobody needs.
	for _, f := range append([]int{0, 2, 3, 4, 5, 256}, badNumbers...) {
		for _, n := range []int{0, 1, 256} {
			checkNoPart(t, p, api.ErrArg, gather.Piece{Frame: f, Len: n})
			checkNoPart(t, p, api.ErrArg, good, gather.Piece{Frame: f, Len: n})
			checkNoPart(t, p, api.ErrArg, gather.Piece{Frame: f, Len: n}, good)
		}
	}
	// Pieces that don't lie in their frame.
	for _, n := range badNumbers {
		checkNoPart(t, p, api.ErrArg, gather.Piece{Frame: 1, Off: n})
		checkNoPart(t, p, api.ErrArg, gather.Piece{Frame: 1, Len: n})
		checkNoPart(t, p, api.ErrArg, gather.Piece{Frame: 1, Off: n, Len: -n})
		checkNoPart(t, p, api.ErrArg, gather.Piece{Frame: 1, Off: n, Len: 256 - n})
		checkNoPart(t, p, api.ErrArg, good, gather.Piece{Frame: 1, Off: n, Len: n})
	}
	checkNoPart(t, p, api.ErrArg, gather.Piece{Frame: 1, Off: 1, Len: 256})
	checkNoPart(t, p, api.ErrArg, gather.Piece{Frame: 1, Off: 256, Len: 1}, good)
	checkNoPart(t, p, api.ErrArg, gather.Piece{Frame: 1, Off: math.MaxInt, Len: math.MaxInt})
	checkPart(t, p, told(3), good)
}

func TestP133PartsThatMayNotBe(t *testing.T) {
	for _, z := range []complex128{-1, 0.5i, 1<<40 + 1, complex(math.NaN(), 0), complex(0, math.Inf(1))} {
		_, p := made(t, 1)
		if f, e := p.Get(3, 256, z); f != 0 || e != api.OK {
			t.Fatalf("Get: %d, %d", f, e)
		}
		checkNoPart(t, p, api.ErrArg, gather.Piece{Len: 256})
		checkPart(t, p, partOf(filled(3, 255)), gather.Piece{Len: 255})
	}
	_, p := made(t, 1)
	if _, e := p.Get(3, 256, 1<<40); e != api.OK {
		t.Fatalf("Get: %d", e)
	}
	checkPart(t, p, 1<<40, gather.Piece{Len: 256})
	checkNoPart(t, p, api.ErrArg, gather.Piece{Len: 256}, gather.Piece{Len: 256})
}

func TestP133Tells(t *testing.T) {
	_, p := made(t, 2)
	get(t, p, 3, 0)
	head(t, p, "a", 1)
	for _, n := range append([]int{2, 256}, badNumbers...) {
		if p.Pins(n) != 0 || p.Has(n) {
			t.Errorf("%d is a frame with pins, or a block", n)
		}
	}
	checkPins(t, p, 1, 1)
	unpin(t, p, 0, 1)
	checkPins(t, p, 0, 0)
	checkHas(t, p, 3)
	for i, b := range []int{4, 5, 3, 3, 6} {
		if _, e := p.Get(b, 256, 0); e != api.OK {
			t.Fatalf("Get: %d", e)
		}
		for f := range 2 {
			for p.Pins(f) > 0 {
				unpin(t, p, f)
			}
		}
		checkFills(t, p, []int{2, 3, 4, 4, 5}[i])
	}
}

func TestP133OfNil(t *testing.T) {
	var p *Pool
	for _, n := range append([]int{0, 1, 256}, badNumbers...) {
		if f, e := p.Get(n, n, 1); f != 0 || e != api.ErrNil {
			t.Errorf("Get(%d): %d, %d", n, f, e)
		}
		if p.Pin(n) != api.ErrNil || p.Unpin(n) != api.ErrNil || p.Pins(n) != 0 || p.Has(n) {
			t.Errorf("%d of nil", n)
		}
		checkNoPart(t, p, api.ErrNil, gather.Piece{Frame: n, Off: n, Len: n})
		p.Forget([]int{n})
	}
	for _, n := range []int{0, 1, 257} {
		if f, e := p.Head(make([]byte, n)); f != 0 || e != api.ErrNil {
			t.Errorf("Head: %d, %d", f, e)
		}
	}
	checkNoPart(t, p, api.ErrNil)
	if p.Fills() != 0 {
		t.Error("Fills of nil")
	}
}

func TestR1NoCallOfAZeroPoolPanics(t *testing.T) {
	var p Pool
	p.Get(0, 0, 0)
	p.Head(nil)
	p.Pin(0)
	p.Unpin(0)
	p.Forget([]int{0})
	p.Part([]gather.Piece{{}})
	if p.Pins(0) != 0 || p.Has(0) || p.Fills() != 0 {
		t.Error("a zero pool has something")
	}
}

func TestR2FramesThatAreSomebodyElsesNow(t *testing.T) {
	k, p := made(t, 2)
	get(t, p, 3, 0)
	call(t, k, kern.Call{Op: 3, Env: 1, A: 0, B: 2})
	call(t, k, kern.Call{Op: 3, Env: 1, A: 1, B: 2})
	if f, e := p.Head([]byte("a")); f != 0 || e != api.ErrOwner {
		t.Errorf("Head: %d, %d", f, e)
	}
	if f, e := p.Get(4, 256, 0); f != 0 || e != api.ErrOwner {
		t.Errorf("Get: %d, %d", f, e)
	}
	checkHas(t, p, 3)
	checkPins(t, p, 1, 0)
	checkNoPart(t, p, api.ErrOwner, gather.Piece{Len: 1})
	// That a piece may not be comes ahead of what the kernel says of another one.
	checkNoPart(t, p, api.ErrArg, gather.Piece{Len: 1}, gather.Piece{Frame: 1, Len: 1})
	for _, x := range []gather.Piece{{Len: 257}, {Off: 1, Len: 256}, {Off: 257}, {Off: -1, Len: 1}, {Off: 1, Len: -1}, {Off: math.MaxInt, Len: math.MaxInt}} {
		checkNoPart(t, p, api.ErrArg, x)
		checkNoPart(t, p, api.ErrArg, gather.Piece{Len: 1}, x)
	}
}

func TestR4NothingIsKept(t *testing.T) {
	k, p := made(t, 2)
	b := []byte("abc")
	f, _ := p.Head(b)
	b[0] = 'z'
	checkFrame(t, k, f, []byte("abc"))
	checkPart(t, p, partOf([]byte("abc")), gather.Piece{Len: 3})
	get(t, p, 3, 1)
	l := []gather.Piece{{Len: 3}, {Frame: 1, Len: 256}}
	if _, e := p.Part(l); e != api.OK || l[0] != (gather.Piece{Len: 3}) || l[1] != (gather.Piece{Frame: 1, Len: 256}) {
		t.Errorf("Part: %d; the list is %v now", e, l)
	}
	blocks := []int{9, 3, 2}
	p.Forget(blocks)
	if !slices.Equal(blocks, []int{9, 3, 2}) {
		t.Errorf("Forget: the list is %v now", blocks)
	}
}

func TestP134PinnedBytesStay(t *testing.T) {
	k, p := made(t, 3)
	get(t, p, 3, 0)
	head(t, p, "head", 1)
	p.Forget([]int{3})
	call(t, k, kern.Call{Op: 7, Env: 1, A: 3, Bytes: filled(77, 256)})
	for b := range 40 {
		f, e := p.Get(b%12, 256, 0)
		if f != 2 || e != api.OK {
			t.Fatalf("Get: %d, %d", f, e)
		}
		want := filled(byte(b%12), 256)
		if b%12 == 3 {
			want = filled(77, 256)
		}
		checkFrame(t, k, 2, want)
		unpin(t, p, 2)
		head(t, p, "x", 2)
		unpin(t, p, 2)
		checkFrame(t, k, 0, filled(3, 256))
		checkFrame(t, k, 1, []byte("head"))
	}
}

func TestExampleOfTheChapter(t *testing.T) {
	_, p := made(t, 1)
	head(t, p, "a", 0)
	checkRefused(t, p, 0)
}
