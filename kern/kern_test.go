package kern

import (
	"bytes"
	"math"
	"slices"
	"strings"
	"testing"

	"pantler/api"
	"pantler/filter"
	"pantler/gather"
)

// badNumbers are no environments, no codes of calls, no frames, no blocks, and not how many of them there are, in whatever kernel.
var badNumbers = []int{-1, -2, -256, 513, 514, 1 << 16, math.MaxInt32, 1 << 32, 1<<32 + 1, math.MaxInt - 1, math.MaxInt, math.MinInt32, math.MinInt, math.MinInt + 1}

// badEnvs are no environments.
var badEnvs = append([]int{0, 3, 4, 257}, badNumbers...)

// all is a program that wants all packets, none one that wants none.
var (
	all  = []filter.Op{{Code: 7, K: 1}}
	none = []filter.Op{{Code: 7}}
)

// beginsWith tells a program that wants the packets whose first byte is b.
func beginsWith(b byte) []filter.Op {
	return []filter.Op{{Code: 0}, {Code: 5, K: uint32(b), F: 1}, {Code: 7, K: 1}, {Code: 7}}
}

// filled tells so many bytes, which hang on what they begin with.
func filled(from byte, n int) []byte {
	b := make([]byte, n)
	for i := range b {
		b[i] = from + byte(i*7)
	}
	return b
}

// made tells a new kernel.
func made(t *testing.T, frames, blocks int) *Kernel {
	t.Helper()
	k, e := New(frames, blocks)
	if k == nil || e != api.OK {
		t.Fatalf("New(%d, %d): %v, %d", frames, blocks, k, e)
	}
	return k
}

// owning tells a new kernel of 16 blocks with a frame of each of these owners (0: it is free), whose bytes are filled with its number.
func owning(t *testing.T, owners ...int) *Kernel {
	t.Helper()
	k := made(t, len(owners), 16)
	for f, owner := range owners {
		checkN(t, k, Call{Op: 1, Env: max(owner, 1)}, f)
		checkDone(t, k, Call{Op: 5, Env: max(owner, 1), A: f, Bytes: filled(byte(f), 256)})
	}
	for f, owner := range owners {
		if owner == 0 {
			checkDone(t, k, Call{Op: 2, Env: 1, A: f})
		}
	}
	return k
}

// checkCall calls.
func checkCall(t *testing.T, k *Kernel, c Call, n int, b string, want api.Errno) {
	t.Helper()
	a, e := k.Call(c)
	if a.N != n || string(a.Bytes) != b || e != want || e != api.OK && a.Bytes != nil {
		t.Fatalf("Call(%+v): %d, %q, %d; not %d, %q, %d", c, a.N, a.Bytes, e, n, b, want)
	}
}

// checkN calls what tells a number.
func checkN(t *testing.T, k *Kernel, c Call, n int) {
	t.Helper()
	checkCall(t, k, c, n, "", api.OK)
}

// checkBytes calls what tells bytes.
func checkBytes(t *testing.T, k *Kernel, c Call, b []byte) {
	t.Helper()
	checkCall(t, k, c, 0, string(b), api.OK)
}

// checkDone calls what tells nothing.
func checkDone(t *testing.T, k *Kernel, c Call) {
	t.Helper()
	checkCall(t, k, c, 0, "", api.OK)
}

// checkErr calls what goes wrong.
func checkErr(t *testing.T, k *Kernel, c Call, want api.Errno) {
	t.Helper()
	checkCall(t, k, c, 0, "", want)
}

// checkArrive lets a packet arrive.
func checkArrive(t *testing.T, k *Kernel, packet string, env int, want api.Errno) {
	t.Helper()
	if n, e := k.Arrive([]byte(packet)); n != env || e != want {
		t.Fatalf("Arrive(%d bytes): %d, %d; not %d, %d", len(packet), n, e, env, want)
	}
}

// checkDepart lets a transfer depart.
func checkDepart(t *testing.T, k *Kernel, b string, env int, want api.Errno) {
	t.Helper()
	got, n, e := k.Depart()
	if string(got) != b || n != env || e != want || e != api.OK && got != nil {
		t.Fatalf("Depart: %q, %d, %d; not %q, %d, %d", got, n, e, b, env, want)
	}
}

// checkHolds holds the holds of all frames against those that are wanted.
func checkHolds(t *testing.T, k *Kernel, want ...int) {
	t.Helper()
	for f, n := range want {
		if got := k.Table().Holds(f); got != n {
			t.Fatalf("frame %d has %d holds; not %d", f, got, n)
		}
	}
}

// times tells a list with a piece so many times.
func times(n int, p gather.Piece) []gather.Piece {
	return slices.Repeat([]gather.Piece{p}, n)
}

// fresh holds a kernel against a new one, of which nothing was asked.
func fresh(t *testing.T, k *Kernel, frames, blocks int) {
	t.Helper()
	if k.Table().Size() != frames || k.Table().FreeCount() != frames {
		t.Fatalf("%d of %d frames are free", k.Table().FreeCount(), k.Table().Size())
	}
	if k.Disk().Size() != blocks || !k.Disk().On() || k.Disk().Waits() != 0 {
		t.Fatalf("%d blocks, on: %t, %d wait", k.Disk().Size(), k.Disk().On(), k.Disk().Waits())
	}
	checkArrive(t, k, "x", 0, api.ErrEmpty)
	checkDepart(t, k, "", 0, api.ErrEmpty)
	for env := 1; env <= 2; env++ {
		checkErr(t, k, Call{Op: 12, Env: env}, api.ErrEmpty)
		checkN(t, k, Call{Op: 13, Env: env}, 0)
	}
}

func TestP91NewFrames(t *testing.T) {
	for n := 1; n <= 256; n++ {
		k := made(t, n, 4)
		fresh(t, k, n, 4)
		for f := range n {
			if k.Owned(1, f) || k.Owned(2, f) {
				t.Fatalf("frame %d is owned", f)
			}
			checkN(t, k, Call{Op: 1, Env: 1 + f%2}, f)
		}
		checkErr(t, k, Call{Op: 1, Env: 1}, api.ErrFull)
		checkErr(t, k, Call{Op: 1, Env: 2}, api.ErrFull)
	}
}

func TestP91NewBlocks(t *testing.T) {
	for n := 4; n <= 512; n++ {
		k := made(t, 1, n)
		fresh(t, k, 1, n)
		for block := range n {
			owner := 1
			if block >= n-n/4 {
				owner = 2
			}
			checkBytes(t, k, Call{Op: 6, Env: owner, A: block}, make([]byte, 256))
			checkErr(t, k, Call{Op: 6, Env: 3 - owner, A: block}, api.ErrOwner)
		}
		checkErr(t, k, Call{Op: 6, Env: 1, A: n}, api.ErrBlock)
		checkErr(t, k, Call{Op: 6, Env: 2, A: n}, api.ErrBlock)
	}
}

func TestP91NewErrors(t *testing.T) {
	wrong := append([]int{0}, badNumbers...)
	for _, frames := range append([]int{257, 1, 256}, wrong...) {
		for _, blocks := range append([]int{1, 2, 3, 4, 512}, wrong...) {
			if frames >= 1 && frames <= 256 && blocks >= 4 && blocks <= 512 {
				continue
			}
			if k, e := New(frames, blocks); k != nil || e != api.ErrArg {
				t.Errorf("New(%d, %d): %v, %d", frames, blocks, k, e)
			}
		}
	}
}

func TestP91Example(t *testing.T) {
	k := made(t, 4, 16)
	checkN(t, k, Call{Op: 1, Env: 2}, 0)
	checkErr(t, k, Call{Op: 2, Env: 1, A: 0}, api.ErrOwner)
}

func TestP91WrongEnvironments(t *testing.T) {
	k := made(t, 2, 8)
	for _, env := range badEnvs {
		for op := 1; op <= 13; op++ {
			checkErr(t, k, Call{Op: op, Env: env, B: 1, Bytes: make([]byte, 256), Prog: all, List: times(1, gather.Piece{Len: 1})}, api.ErrArg)
			// What would go wrong by itself isn't looked at.
			checkErr(t, k, Call{Op: op, Env: env, A: -1, B: -1, C: -1}, api.ErrArg)
		}
	}
	fresh(t, k, 2, 8)
}

func TestP91WrongCalls(t *testing.T) {
	k := made(t, 2, 8)
	for _, op := range append([]int{0, 14, 15, 16, 255, 256, 257, 256 + 9}, badNumbers...) {
		for _, env := range append([]int{1, 2}, badEnvs...) {
			checkErr(t, k, Call{Op: op, Env: env, B: 1, Bytes: make([]byte, 256), Prog: all, List: times(1, gather.Piece{Len: 1})}, api.ErrArg)
		}
	}
	fresh(t, k, 2, 8)
}

func TestP91P92OfNil(t *testing.T) {
	var k *Kernel
	for op := -1; op <= 15; op++ {
		for env := -1; env <= 3; env++ {
			checkErr(t, k, Call{Op: op, Env: env}, api.ErrNil)
		}
	}
	for _, n := range []int{0, 1, 1024, 1025, 1 << 16} {
		checkArrive(t, k, strings.Repeat("x", n), 0, api.ErrNil)
	}
	checkDepart(t, k, "", 0, api.ErrNil)
	if k.Table() != nil || k.Disk() != nil {
		t.Errorf("of nil: %v, %v", k.Table(), k.Disk())
	}
	for env := -1; env <= 3; env++ {
		for f := -1; f <= 1; f++ {
			if k.Owned(env, f) {
				t.Errorf("of nil: %d owns %d", env, f)
			}
		}
	}
}

// Nothing is said of what a kernel that New didn't make answers, but that it does.
func TestP91P92OfAKernelThatIsZero(t *testing.T) {
	var k Kernel
	for op := range 16 {
		for env := range 4 {
			k.Call(Call{Op: op, Env: env, Prog: none, List: times(1, gather.Piece{Len: 1})})
		}
	}
	k.Arrive([]byte("x"))
	k.Depart()
	k.Table().Size()
	k.Disk().Size()
	k.Owned(1, 0)
}

func TestP91Frames(t *testing.T) {
	k := made(t, 3, 8)
	// What a call doesn't ask for isn't looked at.
	checkN(t, k, Call{Op: 1, Env: 1, A: 9, B: -9, C: 9, Bytes: []byte("x"), Prog: []filter.Op{{Code: 99}}, List: times(99, gather.Piece{Frame: -1})}, 0)
	checkN(t, k, Call{Op: 1, Env: 2}, 1)
	checkN(t, k, Call{Op: 1, Env: 1}, 2)
	checkErr(t, k, Call{Op: 1, Env: 2}, api.ErrFull)
	checkDone(t, k, Call{Op: 5, Env: 1, A: 0, B: 10, Bytes: []byte("hello")})
	checkBytes(t, k, Call{Op: 4, Env: 1, A: 0, B: 9, C: 7}, []byte("\x00hello\x00"))
	checkBytes(t, k, Call{Op: 4, Env: 1, A: 0, B: 256}, nil)
	checkBytes(t, k, Call{Op: 4, Env: 1, A: 0, B: 12, C: 2}, []byte("ll"))
	checkDone(t, k, Call{Op: 5, Env: 2, A: 1, B: 256})
	checkDone(t, k, Call{Op: 5, Env: 2, A: 1, Bytes: filled(1, 256)})
	checkBytes(t, k, Call{Op: 4, Env: 2, A: 1, C: 256}, filled(1, 256))
	checkDone(t, k, Call{Op: 3, Env: 1, A: 0, B: 2})
	checkBytes(t, k, Call{Op: 4, Env: 2, A: 0, B: 10, C: 5}, []byte("hello"))
	checkErr(t, k, Call{Op: 4, Env: 1, A: 0, B: 10, C: 5}, api.ErrOwner)
	checkDone(t, k, Call{Op: 3, Env: 2, A: 0, B: 2})
	checkDone(t, k, Call{Op: 2, Env: 2, A: 0})
	checkErr(t, k, Call{Op: 4, Env: 2, A: 0, B: 10, C: 5}, api.ErrOwner)
	checkN(t, k, Call{Op: 1, Env: 1}, 0)
	checkBytes(t, k, Call{Op: 4, Env: 1, A: 0, C: 256}, make([]byte, 256))
}

func TestP91FrameErrors(t *testing.T) {
	k := owning(t, 1, 2, 0)
	for op := 2; op <= 5; op++ {
		for _, f := range append([]int{3, 4, 255, 256}, badNumbers...) {
			checkErr(t, k, Call{Op: op, Env: 1, A: f, B: 1, C: 1}, api.ErrArg)
		}
		checkErr(t, k, Call{Op: op, Env: 1, A: 1, B: 1}, api.ErrOwner)
		checkErr(t, k, Call{Op: op, Env: 2, A: 0, B: 1}, api.ErrOwner)
		checkErr(t, k, Call{Op: op, Env: 1, A: 2, B: 1}, api.ErrOwner)
		checkErr(t, k, Call{Op: op, Env: 2, A: 2, B: 1}, api.ErrOwner)
	}
	for _, to := range badEnvs {
		checkErr(t, k, Call{Op: 3, Env: 1, A: 0, B: to}, api.ErrArg)
	}
	for _, c := range [][2]int{{0, 257}, {256, 1}, {257, 0}, {-1, 1}, {0, -1}, {1, -1}, {math.MaxInt, 1}, {1, math.MaxInt}, {math.MinInt, 0}, {0, math.MinInt}, {math.MaxInt, math.MaxInt}} {
		checkErr(t, k, Call{Op: 4, Env: 1, A: 0, B: c[0], C: c[1]}, api.ErrArg)
	}
	for _, off := range append([]int{252, 257}, badNumbers...) {
		checkErr(t, k, Call{Op: 5, Env: 1, A: 0, B: off, Bytes: []byte("hello")}, api.ErrArg)
	}
	checkErr(t, k, Call{Op: 5, Env: 1, A: 0, Bytes: make([]byte, 257)}, api.ErrArg)
	checkBytes(t, k, Call{Op: 4, Env: 1, A: 0, C: 256}, filled(0, 256))
	checkBytes(t, k, Call{Op: 4, Env: 2, A: 1, C: 256}, filled(1, 256))
	if k.Table().Owner(2) != 0 {
		t.Errorf("frame 2 is owned by %d", k.Table().Owner(2))
	}
}

func TestP91Blocks(t *testing.T) {
	k := made(t, 1, 8)
	a, b := filled('a', 256), filled('b', 256)
	checkDone(t, k, Call{Op: 7, Env: 1, A: 5, Bytes: a, B: -1, C: -1})
	checkDone(t, k, Call{Op: 7, Env: 2, A: 6, Bytes: b})
	checkBytes(t, k, Call{Op: 6, Env: 1, A: 5}, a)
	checkBytes(t, k, Call{Op: 6, Env: 2, A: 6}, b)
	if k.Disk().Waits() != 2 || k.Disk().Image()[5] != string(make([]byte, 256)) {
		t.Errorf("%d wait; block 5 is %q", k.Disk().Waits(), k.Disk().Image()[5])
	}
	checkDone(t, k, Call{Op: 8, Env: 2})
	if k.Disk().Waits() != 0 || k.Disk().Image()[5] != string(a) || k.Disk().Image()[6] != string(b) {
		t.Errorf("%d wait; they are %q, %q", k.Disk().Waits(), k.Disk().Image()[5], k.Disk().Image()[6])
	}
}

func TestP91BlockErrors(t *testing.T) {
	k := made(t, 1, 8)
	page := make([]byte, 256)
	for op := 6; op <= 7; op++ {
		for env := 1; env <= 2; env++ {
			for _, block := range append([]int{8, 9, 511, 512}, badNumbers...) {
				checkErr(t, k, Call{Op: op, Env: env, A: block, Bytes: page}, api.ErrBlock)
			}
		}
		for block := range 8 {
			other := 2
			if block >= 6 {
				other = 1
			}
			checkErr(t, k, Call{Op: op, Env: other, A: block, Bytes: page}, api.ErrOwner)
		}
	}
	for _, n := range []int{0, 1, 255, 257, 512} {
		checkErr(t, k, Call{Op: 7, Env: 1, A: 0, Bytes: make([]byte, n)}, api.ErrArg)
		checkErr(t, k, Call{Op: 7, Env: 2, A: 0, Bytes: make([]byte, n)}, api.ErrOwner)
	}
	k.Disk().Cut()
	for env := 1; env <= 2; env++ {
		checkErr(t, k, Call{Op: 6, Env: env, A: 99}, api.ErrPower)
		checkErr(t, k, Call{Op: 7, Env: env, A: 99}, api.ErrPower)
		checkErr(t, k, Call{Op: 8, Env: env}, api.ErrPower)
	}
	if k.Disk().Waits() != 0 {
		t.Errorf("%d wait", k.Disk().Waits())
	}
}

func TestP91Filters(t *testing.T) {
	k := made(t, 1, 4)
	for id := range 8 {
		checkN(t, k, Call{Op: 9, Env: 1 + id%2, Prog: beginsWith(byte('a' + id)), A: 77}, id)
	}
	// Eight are the most of both environments together.
	checkErr(t, k, Call{Op: 9, Env: 1, Prog: all}, api.ErrFull)
	checkErr(t, k, Call{Op: 9, Env: 2, Prog: all}, api.ErrFull)
	checkErr(t, k, Call{Op: 9, Env: 2}, api.ErrFull)
	for id := range 8 {
		checkArrive(t, k, string(rune('a'+id)), 1+id%2, api.OK)
	}
	checkArrive(t, k, "i", 0, api.ErrEmpty)
	checkDone(t, k, Call{Op: 10, Env: 2, A: 3})
	checkArrive(t, k, "d", 0, api.ErrEmpty)
	// Ids rise: none comes again.
	checkN(t, k, Call{Op: 9, Env: 1, Prog: beginsWith('i')}, 8)
	checkArrive(t, k, "i", 1, api.OK)
	checkErr(t, k, Call{Op: 9, Env: 1, Prog: all}, api.ErrFull)
	checkDone(t, k, Call{Op: 10, Env: 1, A: 8})
	checkErr(t, k, Call{Op: 10, Env: 1, A: 8}, api.ErrEmpty)
	checkN(t, k, Call{Op: 9, Env: 2, Prog: beginsWith('d')}, 9)
	checkArrive(t, k, "d", 2, api.OK)
}

func TestP91FilterErrors(t *testing.T) {
	k := made(t, 1, 4)
	for _, p := range [][]filter.Op{nil, {}, {{Code: 9}}, {{Code: 0}}, {{Code: 5, T: 1}, {Code: 7}}, slices.Repeat(all, 65)} {
		checkErr(t, k, Call{Op: 9, Env: 1, Prog: p}, api.ErrProg)
		checkErr(t, k, Call{Op: 9, Env: 2, Prog: p}, api.ErrProg)
	}
	// Those that can't be took no id.
	checkN(t, k, Call{Op: 9, Env: 2, Prog: slices.Repeat(none, 64)}, 0)
	checkN(t, k, Call{Op: 9, Env: 1, Prog: beginsWith('a')}, 1)
	checkErr(t, k, Call{Op: 9, Env: 1, Prog: []filter.Op{{Code: 9}}}, api.ErrProg)
	checkN(t, k, Call{Op: 9, Env: 2, Prog: beginsWith('b')}, 2)
	for _, id := range append([]int{0, 2, 3, 8, 255, 256}, badNumbers...) {
		checkErr(t, k, Call{Op: 10, Env: 1, A: id}, api.ErrEmpty)
	}
	for _, id := range append([]int{1, 3, 8, 255, 256}, badNumbers...) {
		checkErr(t, k, Call{Op: 10, Env: 2, A: id}, api.ErrEmpty)
	}
	checkArrive(t, k, "a", 1, api.OK)
	checkArrive(t, k, "b", 2, api.OK)
}

func TestP91FiltersGoInAnyOrder(t *testing.T) {
	k := made(t, 1, 4)
	for next := range 300 {
		checkN(t, k, Call{Op: 9, Env: 1, Prog: none}, next)
		if next >= 7 {
			// The newest, the eldest, or one between.
			id := []int{next, next - 7, next - 3}[next%3]
			if _, e := k.Call(Call{Op: 10, Env: 1, A: id}); e != api.OK {
				// It went already: the eldest that is there goes instead.
				for id = 0; id <= next; id++ {
					if _, e = k.Call(Call{Op: 10, Env: 1, A: id}); e == api.OK {
						break
					}
				}
			}
			checkErr(t, k, Call{Op: 10, Env: 1, A: id}, api.ErrEmpty)
		}
	}
}

func TestP91Transfers(t *testing.T) {
	k := owning(t, 1, 2)
	for ticket := range 16 {
		checkN(t, k, Call{Op: 11, Env: 1 + ticket%2, A: 99, List: []gather.Piece{{Frame: ticket % 2, Off: ticket, Len: 2}}}, ticket)
	}
	// Sixteen are the most of both environments together; whether the list may be isn't asked then.
	checkErr(t, k, Call{Op: 11, Env: 1, List: times(1, gather.Piece{Frame: 0, Len: 1})}, api.ErrFull)
	checkErr(t, k, Call{Op: 11, Env: 2, List: times(1, gather.Piece{Frame: 0, Len: 1})}, api.ErrFull)
	checkErr(t, k, Call{Op: 11, Env: 2}, api.ErrFull)
	checkHolds(t, k, 8, 8)
	checkDepart(t, k, string(filled(0, 2)), 1, api.OK)
	checkHolds(t, k, 7, 8)
	checkN(t, k, Call{Op: 11, Env: 2, List: times(16, gather.Piece{Frame: 1, Off: 255, Len: 1})}, 16)
	checkErr(t, k, Call{Op: 11, Env: 1, List: times(1, gather.Piece{Frame: 0, Len: 1})}, api.ErrFull)
	checkHolds(t, k, 7, 24)
	for ticket := 1; ticket < 16; ticket++ {
		checkDepart(t, k, string(filled(byte(ticket%2), 256)[ticket:ticket+2]), 1+ticket%2, api.OK)
		checkN(t, k, Call{Op: 13, Env: 1 + ticket/2%2}, ticket+1)
	}
	checkDepart(t, k, strings.Repeat(string(filled(1, 256)[255:]), 16), 2, api.OK)
	checkDepart(t, k, "", 0, api.ErrEmpty)
	checkHolds(t, k, 0, 0)
	checkN(t, k, Call{Op: 13, Env: 1}, 17)
	checkN(t, k, Call{Op: 13, Env: 2}, 17)
	checkN(t, k, Call{Op: 11, Env: 1, List: times(1, gather.Piece{Frame: 0, Len: 1})}, 17)
}

func TestP91TransferErrors(t *testing.T) {
	k := owning(t, 1, 2, 0)
	good := gather.Piece{Frame: 0, Len: 1}
	for _, p := range []gather.Piece{{Frame: 3, Len: 1}, {Frame: -1, Len: 1}, {Frame: math.MaxInt, Len: 1}, {}, {Len: -1}, {Off: -1, Len: 2}, {Off: 1, Len: 256}, {Off: math.MaxInt, Len: math.MaxInt}} {
		checkErr(t, k, Call{Op: 11, Env: 1, List: []gather.Piece{good, p}}, api.ErrArg)
	}
	checkErr(t, k, Call{Op: 11, Env: 1}, api.ErrArg)
	checkErr(t, k, Call{Op: 11, Env: 1, List: []gather.Piece{}}, api.ErrArg)
	checkErr(t, k, Call{Op: 11, Env: 1, List: times(17, good)}, api.ErrLong)
	checkErr(t, k, Call{Op: 11, Env: 1, List: append(times(4, gather.Piece{Len: 256}), good)}, api.ErrLong)
	checkErr(t, k, Call{Op: 11, Env: 1, List: []gather.Piece{good, {Frame: 1, Len: 1}}}, api.ErrOwner)
	checkErr(t, k, Call{Op: 11, Env: 1, List: []gather.Piece{good, {Frame: 2, Len: 1}}}, api.ErrOwner)
	checkErr(t, k, Call{Op: 11, Env: 2, List: []gather.Piece{good}}, api.ErrOwner)
	checkHolds(t, k, 0, 0, 0)
	checkDepart(t, k, "", 0, api.ErrEmpty)
	checkN(t, k, Call{Op: 13, Env: 1}, 0)
	// Those that can't be took no ticket.
	checkN(t, k, Call{Op: 11, Env: 1, List: append(times(3, gather.Piece{Len: 256}), gather.Piece{Off: 1, Len: 255}, good)}, 0)
	checkN(t, k, Call{Op: 11, Env: 1, List: times(16, gather.Piece{Off: 192, Len: 64})}, 1)
	checkHolds(t, k, 21, 0, 0)
}

func TestP91FramesOfTransfersAreHeld(t *testing.T) {
	k := owning(t, 1, 1)
	list := []gather.Piece{{Frame: 0, Off: 1, Len: 2}, {Frame: 0, Off: 7, Len: 1}}
	for ticket := range 2 {
		checkN(t, k, Call{Op: 11, Env: 1, List: list}, ticket)
	}
	for holds := 4; holds > 0; holds -= 2 {
		checkHolds(t, k, holds, 0)
		checkErr(t, k, Call{Op: 2, Env: 1, A: 0}, api.ErrBusy)
		checkErr(t, k, Call{Op: 3, Env: 1, A: 0, B: 2}, api.ErrBusy)
		checkErr(t, k, Call{Op: 5, Env: 1, A: 0, Bytes: []byte("x")}, api.ErrBusy)
		checkBytes(t, k, Call{Op: 4, Env: 1, A: 0, C: 256}, filled(0, 256))
		checkDone(t, k, Call{Op: 5, Env: 1, A: 1, Bytes: []byte("x")})
		checkDepart(t, k, string([]byte{filled(0, 9)[1], filled(0, 9)[2], filled(0, 9)[7]}), 1, api.OK)
	}
	checkHolds(t, k, 0, 0)
	checkDone(t, k, Call{Op: 5, Env: 1, A: 0, Bytes: []byte("x")})
	checkDone(t, k, Call{Op: 3, Env: 1, A: 0, B: 2})
	checkDone(t, k, Call{Op: 2, Env: 2, A: 0})
}

func TestP91Packets(t *testing.T) {
	k := made(t, 1, 4)
	checkN(t, k, Call{Op: 9, Env: 2, Prog: beginsWith('b')}, 0)
	checkN(t, k, Call{Op: 9, Env: 1, Prog: all}, 1)
	for _, s := range []string{"a1", "b1", "b2", "a2", "", "b3"} {
		env := 1
		if strings.HasPrefix(s, "b") {
			env = 2
		}
		checkArrive(t, k, s, env, api.OK)
	}
	for _, s := range []string{"b1", "b2", "b3"} {
		checkBytes(t, k, Call{Op: 12, Env: 2, A: 5}, []byte(s))
	}
	checkErr(t, k, Call{Op: 12, Env: 2}, api.ErrEmpty)
	for _, s := range []string{"a1", "a2", ""} {
		checkBytes(t, k, Call{Op: 12, Env: 1}, []byte(s))
	}
	checkErr(t, k, Call{Op: 12, Env: 1}, api.ErrEmpty)
	checkErr(t, k, Call{Op: 12, Env: 2}, api.ErrEmpty)
}

// The packets that came for a filter stay, when it goes.
func TestP91PacketsOutliveTheirFilter(t *testing.T) {
	k := made(t, 1, 4)
	checkN(t, k, Call{Op: 9, Env: 2, Prog: all}, 0)
	checkArrive(t, k, "one", 2, api.OK)
	checkDone(t, k, Call{Op: 10, Env: 2, A: 0})
	checkArrive(t, k, "two", 0, api.ErrEmpty)
	checkBytes(t, k, Call{Op: 12, Env: 2}, []byte("one"))
	checkErr(t, k, Call{Op: 12, Env: 2}, api.ErrEmpty)
}

func TestP92ArriveSizes(t *testing.T) {
	k := made(t, 1, 4)
	for _, n := range []int{1025, 1026, 4096, 1 << 16} {
		checkArrive(t, k, strings.Repeat("x", n), 0, api.ErrLong)
	}
	checkN(t, k, Call{Op: 9, Env: 1, Prog: all}, 0)
	for _, n := range []int{0, 1, 255, 256, 257, 1023, 1024} {
		checkArrive(t, k, string(filled('p', n)), 1, api.OK)
		checkBytes(t, k, Call{Op: 12, Env: 1}, filled('p', n))
		checkArrive(t, k, strings.Repeat("x", n+1025), 0, api.ErrLong)
	}
	if n, e := k.Arrive(nil); n != 1 || e != api.OK {
		t.Errorf("Arrive(nil): %d, %d", n, e)
	}
	checkBytes(t, k, Call{Op: 12, Env: 1}, nil)
	checkErr(t, k, Call{Op: 12, Env: 1}, api.ErrEmpty)
	for i := range 16 {
		checkArrive(t, k, string(rune('a'+i)), 1, api.OK)
	}
	// It's too long, whether there is room or not.
	checkArrive(t, k, strings.Repeat("x", 1025), 0, api.ErrLong)
}

func TestP92ArriveAsksInTheOrderOfIds(t *testing.T) {
	k := made(t, 1, 4)
	checkArrive(t, k, "a", 0, api.ErrEmpty)
	checkN(t, k, Call{Op: 9, Env: 1, Prog: none}, 0)
	checkArrive(t, k, "a", 0, api.ErrEmpty)
	checkN(t, k, Call{Op: 9, Env: 2, Prog: beginsWith('a')}, 1)
	checkN(t, k, Call{Op: 9, Env: 1, Prog: beginsWith('a')}, 2)
	checkN(t, k, Call{Op: 9, Env: 2, Prog: all}, 3)
	checkArrive(t, k, "a", 2, api.OK)
	checkArrive(t, k, "b", 2, api.OK)
	checkDone(t, k, Call{Op: 10, Env: 2, A: 1})
	checkArrive(t, k, "a", 1, api.OK)
	// A new one comes behind all others, though there is room where one went.
	checkN(t, k, Call{Op: 9, Env: 2, Prog: beginsWith('a')}, 4)
	checkArrive(t, k, "a", 1, api.OK)
	checkDone(t, k, Call{Op: 10, Env: 1, A: 2})
	checkArrive(t, k, "a", 2, api.OK)
}

// Each number but 0 tells that the packet is wanted, and none tells whose it is.
func TestP92ArriveByNumbers(t *testing.T) {
	for env := 1; env <= 2; env++ {
		for _, n := range []uint32{1, 2, 3, 255, 256, 1 << 16, 1 << 31, math.MaxUint32} {
			k := made(t, 1, 4)
			checkN(t, k, Call{Op: 9, Env: 3 - env, Prog: none}, 0)
			checkN(t, k, Call{Op: 9, Env: env, Prog: []filter.Op{{Code: 7, K: n}}}, 1)
			checkArrive(t, k, "x", env, api.OK)
		}
		// The byte itself is what the program ends with; of no byte it is 0.
		k := made(t, 1, 4)
		checkN(t, k, Call{Op: 9, Env: env, Prog: []filter.Op{{Code: 0, K: 2}, {Code: 8}}}, 0)
		checkArrive(t, k, "ab\x00", 0, api.ErrEmpty)
		checkArrive(t, k, "ab\x01", env, api.OK)
		checkArrive(t, k, "ab", 0, api.ErrEmpty)
		checkArrive(t, k, "", 0, api.ErrEmpty)
	}
}

func TestP92ArriveWhereTheRingIsFull(t *testing.T) {
	for env := 1; env <= 2; env++ {
		k := made(t, 1, 4)
		checkN(t, k, Call{Op: 9, Env: env, Prog: beginsWith('p')}, 0)
		checkN(t, k, Call{Op: 9, Env: 3 - env, Prog: all}, 1)
		for i := range 16 {
			checkArrive(t, k, "p"+string(rune('a'+i)), env, api.OK)
		}
		// It's lost: the filters behind aren't asked any more.
		checkArrive(t, k, "p lost", 0, api.ErrFull)
		checkErr(t, k, Call{Op: 12, Env: 3 - env}, api.ErrEmpty)
		checkArrive(t, k, "q", 3-env, api.OK)
		checkBytes(t, k, Call{Op: 12, Env: env}, []byte("pa"))
		checkArrive(t, k, "p last", env, api.OK)
		checkArrive(t, k, "p lost", 0, api.ErrFull)
		for i := 1; i < 16; i++ {
			checkBytes(t, k, Call{Op: 12, Env: env}, []byte("p"+string(rune('a'+i))))
		}
		checkBytes(t, k, Call{Op: 12, Env: env}, []byte("p last"))
		checkErr(t, k, Call{Op: 12, Env: env}, api.ErrEmpty)
		checkBytes(t, k, Call{Op: 12, Env: 3 - env}, []byte("q"))
	}
}

func TestP92Depart(t *testing.T) {
	k := owning(t, 1, 2, 1)
	checkDepart(t, k, "", 0, api.ErrEmpty)
	checkN(t, k, Call{Op: 13, Env: 1}, 0)
	checkN(t, k, Call{Op: 11, Env: 1, List: []gather.Piece{{Frame: 2, Off: 250, Len: 6}, {Frame: 0, Len: 3}, {Frame: 2, Len: 1}}}, 0)
	checkN(t, k, Call{Op: 11, Env: 2, List: []gather.Piece{{Frame: 1, Len: 256}}}, 1)
	checkHolds(t, k, 1, 1, 2)
	checkDepart(t, k, string(filled(2, 256)[250:])+string(filled(0, 3))+string(filled(2, 1)), 1, api.OK)
	checkHolds(t, k, 0, 1, 0)
	checkN(t, k, Call{Op: 13, Env: 2}, 1)
	checkDepart(t, k, string(filled(1, 256)), 2, api.OK)
	checkHolds(t, k, 0, 0, 0)
	checkN(t, k, Call{Op: 13, Env: 1}, 2)
	for range 3 {
		checkDepart(t, k, "", 0, api.ErrEmpty)
	}
	checkN(t, k, Call{Op: 13, Env: 1}, 2)
}

// Somebody who has the table may take a transfer's holds away: it goes, without bytes, and those behind it go as ever.
func TestP92DepartWithoutHolds(t *testing.T) {
	k := owning(t, 1, 2)
	checkN(t, k, Call{Op: 11, Env: 1, List: []gather.Piece{{Frame: 0, Len: 1}}}, 0)
	checkN(t, k, Call{Op: 11, Env: 2, List: []gather.Piece{{Frame: 1, Len: 3}}}, 1)
	k.Table().Drop(0)
	checkDepart(t, k, "", 0, api.ErrArg)
	checkN(t, k, Call{Op: 13, Env: 1}, 1)
	checkHolds(t, k, 0, 1)
	checkDepart(t, k, string(filled(1, 3)), 2, api.OK)
	checkDepart(t, k, "", 0, api.ErrEmpty)
	checkN(t, k, Call{Op: 13, Env: 1}, 2)
}

func TestP92ItsOwnTableAndDisk(t *testing.T) {
	k, other := owning(t, 1, 2), made(t, 2, 16)
	if k.Table() != k.Table() || k.Disk() != k.Disk() || k.Table() == other.Table() || k.Disk() == other.Disk() {
		t.Fatalf("not its own: %p, %p", k.Table(), k.Disk())
	}
	// Who has them sees what is done by calls, and the other way round.
	if b, e := k.Table().Read(2, 1, 0, 256); !bytes.Equal(b, filled(1, 256)) || e != api.OK {
		t.Errorf("frame 1: %q, %d", b, e)
	}
	k.Table().Write(1, 0, 3, []byte("three"))
	checkBytes(t, k, Call{Op: 4, Env: 1, A: 0, B: 3, C: 5}, []byte("three"))
	checkDone(t, k, Call{Op: 7, Env: 1, A: 2, Bytes: filled('d', 256)})
	if b, e := k.Disk().Read(1, 2); !bytes.Equal(b, filled('d', 256)) || e != api.OK {
		t.Errorf("block 2: %q, %d", b, e)
	}
	k.Disk().Write(2, 12, filled('e', 256))
	checkBytes(t, k, Call{Op: 6, Env: 2, A: 12}, filled('e', 256))
	k.Disk().Arm(0)
	checkErr(t, k, Call{Op: 7, Env: 2, A: 12, Bytes: filled('f', 256)}, api.ErrPower)
	checkErr(t, k, Call{Op: 6, Env: 2, A: 12}, api.ErrPower)
	fresh(t, other, 2, 16)
}

func TestP92Owned(t *testing.T) {
	k := owning(t, 1, 2, 0)
	for f, owner := range []int{1, 2, 0} {
		for env := 1; env <= 2; env++ {
			if k.Owned(env, f) != (env == owner) {
				t.Errorf("Owned(%d, %d): %t", env, f, k.Owned(env, f))
			}
		}
		// What is no environment owns nothing: a free frame is nobody's.
		for _, env := range badEnvs {
			if k.Owned(env, f) {
				t.Errorf("Owned(%d, %d)", env, f)
			}
		}
	}
	for _, f := range append([]int{3, 4, 255, 256}, badNumbers...) {
		for _, env := range append([]int{1, 2}, badEnvs...) {
			if k.Owned(env, f) {
				t.Errorf("Owned(%d, %d)", env, f)
			}
		}
	}
	checkDone(t, k, Call{Op: 3, Env: 1, A: 0, B: 2})
	checkDone(t, k, Call{Op: 2, Env: 2, A: 1})
	if k.Owned(1, 0) || !k.Owned(2, 0) || k.Owned(2, 1) {
		t.Errorf("Owned: %t, %t, %t", k.Owned(1, 0), k.Owned(2, 0), k.Owned(2, 1))
	}
}

func TestP91P92WhatIsHandedInIsNotKept(t *testing.T) {
	k := owning(t, 1, 1)
	prog := beginsWith('a')
	list := []gather.Piece{{Frame: 0, Off: 1, Len: 2}, {Frame: 1, Len: 1}}
	frame, block, packet := []byte("frame"), filled('b', 256), []byte("a packet")
	checkDone(t, k, Call{Op: 5, Env: 1, A: 0, Bytes: frame})
	checkDone(t, k, Call{Op: 7, Env: 1, A: 0, Bytes: block})
	checkN(t, k, Call{Op: 9, Env: 1, Prog: prog}, 0)
	checkN(t, k, Call{Op: 11, Env: 1, List: list}, 0)
	checkArrive(t, k, string(packet), 1, api.OK)
	k.Arrive(packet)
	if !slices.Equal(prog, beginsWith('a')) || list[0] != (gather.Piece{Frame: 0, Off: 1, Len: 2}) || string(frame) != "frame" || string(packet) != "a packet" {
		t.Errorf("they became %v, %v, %q, %q", prog, list, frame, packet)
	}
	clear(prog)
	clear(list)
	clear(frame)
	clear(block)
	clear(packet)
	checkBytes(t, k, Call{Op: 4, Env: 1, A: 0, C: 5}, []byte("frame"))
	checkBytes(t, k, Call{Op: 6, Env: 1, A: 0}, filled('b', 256))
	checkArrive(t, k, "b", 0, api.ErrEmpty)
	checkArrive(t, k, "a", 1, api.OK)
	for _, s := range []string{"a packet", "a packet", "a"} {
		checkBytes(t, k, Call{Op: 12, Env: 1}, []byte(s))
	}
	checkDepart(t, k, "ra\x01", 1, api.OK)
	checkHolds(t, k, 0, 0)
}

func TestP91P92WhatIsToldIsTheCallers(t *testing.T) {
	k := owning(t, 1)
	spoil := func(c Call) {
		a, _ := k.Call(c)
		for i := range a.Bytes {
			a.Bytes[i] ^= 255
		}
	}
	checkDone(t, k, Call{Op: 7, Env: 1, A: 0, Bytes: filled('b', 256)})
	spoil(Call{Op: 4, Env: 1, A: 0, C: 256})
	spoil(Call{Op: 6, Env: 1, A: 0})
	for ticket := range 2 {
		checkN(t, k, Call{Op: 11, Env: 1, List: []gather.Piece{{Frame: 0, Len: 256}}}, ticket)
	}
	b, _, _ := k.Depart()
	clear(b)
	checkDepart(t, k, string(filled(0, 256)), 1, api.OK)
	checkBytes(t, k, Call{Op: 4, Env: 1, A: 0, C: 256}, filled(0, 256))
	checkBytes(t, k, Call{Op: 6, Env: 1, A: 0}, filled('b', 256))
}
