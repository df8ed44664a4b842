package disk

import (
	"math"
	"strings"
	"testing"

	"pantler/api"
)

// badNumbers are no environments and no blocks, in whatever disk, nor how many of them there are.
var badNumbers = []int{-1, -2, -512, 513, 514, 1 << 16, math.MaxInt32, 1 << 32, 1<<32 + 1, math.MaxInt - 1, math.MaxInt, math.MinInt32, math.MinInt, math.MinInt + 1}

// badEnvs are no environments.
var badEnvs = append([]int{0, 3}, badNumbers...)

// made tells a new disk of n blocks.
func made(t *testing.T, n int) *Disk {
	t.Helper()
	d, e := New(n)
	if d == nil || e != api.OK {
		t.Fatalf("New(%d): %v, %d", n, d, e)
	}
	return d
}

// halved tells a new disk of 8 blocks, of which 0 to 3 are of environment 1, 4 and 5 of 2, and 6 and 7 of nobody.
func halved(t *testing.T) *Disk {
	t.Helper()
	d := made(t, 8)
	checkErr(t, "Grant", d.Grant(1, 0, 4), api.OK)
	checkErr(t, "Grant", d.Grant(2, 4, 2), api.OK)
	return d
}

// checkErr holds an error against the one that is wanted.
func checkErr(t *testing.T, call string, got, want api.Errno) {
	t.Helper()
	if got != want {
		t.Fatalf("%s: %d; not %d", call, got, want)
	}
}

// checkRead reads what must go well.
func checkRead(t *testing.T, d *Disk, env, block int, want string) {
	t.Helper()
	if b, e := d.Read(env, block); string(b) != want || e != api.OK {
		t.Fatalf("Read(%d, %d): %q, %d; not %q", env, block, b, e, want)
	}
}

// checkNoRead reads what must go wrong.
func checkNoRead(t *testing.T, d *Disk, env, block int, f api.Errno) {
	t.Helper()
	if b, e := d.Read(env, block); b != nil || e != f {
		t.Fatalf("Read(%d, %d): %q, %d; not %d", env, block, b, e, f)
	}
}

// checkWrite writes.
func checkWrite(t *testing.T, d *Disk, env, block int, text string, f api.Errno) {
	t.Helper()
	if e := d.Write(env, block, []byte(text)); e != f {
		t.Fatalf("Write(%d, %d): %d; not %d", env, block, e, f)
	}
}

// checkState asks for what is told of the disk.
func checkState(t *testing.T, d *Disk, on bool, waits int) {
	t.Helper()
	if d.On() != on || d.Waits() != waits {
		t.Fatalf("on: %t, %d wait; not %t, %d", d.On(), d.Waits(), on, waits)
	}
}

// checkImage asks for the durable blocks: the first letter of each, 0 being told as a dot.
func checkImage(t *testing.T, d *Disk, want string) {
	t.Helper()
	image := d.Image()
	if len(image) != d.Size() || len(image) != len(want) {
		t.Fatalf("Image: %d blocks of %d", len(image), d.Size())
	}
	for block, text := range image {
		if text != filled(want[block]) {
			t.Fatalf("Image: block %d is %q; not %q", block, text, filled(want[block]))
		}
	}
}

// filled tells the bytes of a block that hang on a letter: zeros, if it is a dot.
func filled(letter byte) string {
	b := make([]byte, 256)
	for i := range b {
		if letter != '.' {
			b[i] = letter + byte(i*7)
		}
	}
	return string(b)
}

func TestP61New(t *testing.T) {
	for n := 1; n <= 512; n++ {
		d := made(t, n)
		checkState(t, d, true, 0)
		checkImage(t, d, strings.Repeat(".", n))
		if d.Size() != n {
			t.Fatalf("New(%d): %d blocks", n, d.Size())
		}
		// It isn't armed, and nobody has an extent of it.
		checkNoRead(t, d, 1, n-1, api.ErrOwner)
		checkErr(t, "Grant", d.Grant(2, 0, n), api.OK)
		for block := range n {
			checkRead(t, d, 2, block, filled('.'))
		}
		checkWrite(t, d, 2, n-1, filled('a'), api.OK)
		checkState(t, d, true, 1)
	}
}

func TestP61NewErrors(t *testing.T) {
	for _, n := range append([]int{0}, badNumbers...) {
		if d, e := New(n); d != nil || e != api.ErrArg {
			t.Errorf("New(%d): %v, %d", n, d, e)
		}
	}
}

func TestP61Grant(t *testing.T) {
	// Each extent that may be.
	const size = 9
	for first := range size {
		for n := 1; n <= size-first; n++ {
			d := made(t, size)
			checkErr(t, "Grant", d.Grant(1+n%2, first, n), api.OK)
			for block := range size {
				if block >= first && block < first+n {
					checkRead(t, d, 1+n%2, block, filled('.'))
					checkWrite(t, d, 1+n%2, block, filled('a'), api.OK)
				} else {
					checkNoRead(t, d, 1+n%2, block, api.ErrOwner)
					checkWrite(t, d, 1+n%2, block, filled('a'), api.ErrOwner)
				}
				checkNoRead(t, d, 2-n%2, block, api.ErrOwner)
				checkWrite(t, d, 2-n%2, block, filled('a'), api.ErrOwner)
			}
			checkState(t, d, true, n)
		}
	}
}

func TestP61GrantOfMany(t *testing.T) {
	d := made(t, 512)
	for block := 511; block >= 0; block-- {
		checkErr(t, "Grant", d.Grant(1+block%2, block, 1), api.OK)
	}
	for block := range 512 {
		checkRead(t, d, 1+block%2, block, filled('.'))
		checkNoRead(t, d, 2-block%2, block, api.ErrOwner)
		checkErr(t, "Grant", d.Grant(1+block%2, block, 1), api.ErrOwner)
	}
}

func TestP61GrantErrors(t *testing.T) {
	d := made(t, 8)
	for _, env := range badEnvs {
		checkErr(t, "Grant to nobody", d.Grant(env, 0, 1), api.ErrArg)
	}
	for _, c := range [][2]int{
		{0, 0}, {0, -1}, {0, 9}, {1, 8}, {7, 2}, {8, 0}, {8, 1}, {8, -1}, {9, -1}, {9, 1}, {-1, 1}, {-1, 2}, {-1, 9}, {-8, 16},
		{0, math.MaxInt}, {1, math.MaxInt}, {7, math.MaxInt}, {8, math.MaxInt}, {math.MaxInt, 1}, {math.MaxInt, math.MaxInt},
		{0, math.MinInt}, {8, math.MinInt}, {math.MinInt, 1}, {math.MinInt, math.MinInt}, {math.MinInt, math.MaxInt}, {math.MaxInt, math.MinInt},
		{0, 1 << 32}, {0, 1<<32 + 1}, {1 << 32, 1}, {0, 513},
	} {
		checkErr(t, "Grant of what isn't there", d.Grant(1, c[0], c[1]), api.ErrArg)
		checkErr(t, "Grant of what isn't there", d.Grant(2, c[0], c[1]), api.ErrArg)
	}
	// Nobody owns anything.
	for block := range 8 {
		checkNoRead(t, d, 1, block, api.ErrOwner)
		checkNoRead(t, d, 2, block, api.ErrOwner)
	}
}

func TestP61GrantOfWhatIsOwned(t *testing.T) {
	d := made(t, 8)
	checkErr(t, "Grant", d.Grant(1, 3, 2), api.OK)
	for _, c := range [][2]int{{0, 4}, {0, 5}, {0, 8}, {2, 2}, {3, 1}, {3, 2}, {4, 1}, {4, 4}} {
		for env := 1; env <= 2; env++ {
			checkErr(t, "Grant of what is owned", d.Grant(env, c[0], c[1]), api.ErrOwner)
		}
		// What can't be is told ahead of whose it is.
		checkErr(t, "Grant to nobody", d.Grant(3, c[0], c[1]), api.ErrArg)
	}
	checkErr(t, "Grant of what isn't there", d.Grant(2, 3, 6), api.ErrArg)
	for block := range 8 {
		checkNoRead(t, d, 2, block, api.ErrOwner)
		if block < 3 || block > 4 {
			checkNoRead(t, d, 1, block, api.ErrOwner)
		}
	}
	checkErr(t, "Grant", d.Grant(2, 0, 3), api.OK)
	checkErr(t, "Grant", d.Grant(1, 5, 3), api.OK)
}

func TestP61GrantWithoutPower(t *testing.T) {
	d := made(t, 2)
	d.Cut()
	checkErr(t, "Grant", d.Grant(2, 1, 1), api.OK)
	checkErr(t, "Grant", d.Grant(1, 0, 2), api.ErrOwner)
	checkErr(t, "Revive", d.Revive(0), api.OK)
	checkRead(t, d, 2, 1, filled('.'))
	checkNoRead(t, d, 1, 0, api.ErrOwner)
}

func TestP61Nil(t *testing.T) {
	var d *Disk
	for _, n := range append([]int{0, 1, 2, 3}, badNumbers...) {
		checkErr(t, "Grant", d.Grant(n, n, n), api.ErrNil)
		checkNoRead(t, d, n, n, api.ErrNil)
		checkErr(t, "Write", d.Write(n, n, nil), api.ErrNil)
		checkErr(t, "Revive", d.Revive(n), api.ErrNil)
		d.Arm(n)
	}
	d.Cut()
	checkWrite(t, d, 1, 0, filled('a'), api.ErrNil)
	checkErr(t, "Sync", d.Sync(), api.ErrNil)
	if d.On() || d.Waits() != 0 || d.Size() != 0 || len(d.Image()) != 0 {
		t.Errorf("of nil: %t, %d, %d, %q", d.On(), d.Waits(), d.Size(), d.Image())
	}
}

func TestP62Example(t *testing.T) {
	d := made(t, 1)
	checkWrite(t, d, 1, 0, filled('a'), api.ErrOwner)
	checkState(t, d, true, 0)
}

func TestP62ReadsTheLastWrite(t *testing.T) {
	d := halved(t)
	checkWrite(t, d, 1, 0, filled('a'), api.OK)
	checkWrite(t, d, 1, 3, filled('b'), api.OK)
	checkWrite(t, d, 2, 4, filled('c'), api.OK)
	checkWrite(t, d, 1, 0, filled('d'), api.OK)
	checkState(t, d, true, 4)
	checkRead(t, d, 1, 0, filled('d'))
	checkRead(t, d, 1, 1, filled('.'))
	checkRead(t, d, 1, 3, filled('b'))
	checkRead(t, d, 2, 4, filled('c'))
	checkImage(t, d, "........")
	checkErr(t, "Sync", d.Sync(), api.OK)
	checkState(t, d, true, 0)
	checkImage(t, d, "d..bc...")
	// What waits is read ahead of what is durable.
	checkWrite(t, d, 1, 0, filled('e'), api.OK)
	checkWrite(t, d, 1, 3, filled('.'), api.OK)
	checkRead(t, d, 1, 0, filled('e'))
	checkRead(t, d, 1, 3, filled('.'))
	checkRead(t, d, 2, 4, filled('c'))
	checkImage(t, d, "d..bc...")
	checkErr(t, "Sync", d.Sync(), api.OK)
	checkImage(t, d, "e...c...")
	checkErr(t, "Sync of nothing", d.Sync(), api.OK)
	checkImage(t, d, "e...c...")
	checkState(t, d, true, 0)
}

func TestP62LongLine(t *testing.T) {
	d := halved(t)
	for i := range 3000 {
		checkWrite(t, d, 1, i%4, filled(byte('a'+i%23)), api.OK)
	}
	checkState(t, d, true, 3000)
	want := make([]byte, 4)
	for i := 2996; i < 3000; i++ {
		want[i%4] = byte('a' + i%23)
		checkRead(t, d, 1, i%4, filled(want[i%4]))
	}
	checkImage(t, d, "........")
	checkErr(t, "Sync", d.Sync(), api.OK)
	checkImage(t, d, string(want)+"....")
	checkState(t, d, true, 0)
}

func TestP62WrongBlocksAndOwners(t *testing.T) {
	d := halved(t)
	for _, block := range append([]int{8, 9, 256, 511, 512}, badNumbers...) {
		for _, env := range append([]int{1, 2}, badEnvs...) {
			checkNoRead(t, d, env, block, api.ErrBlock)
			checkWrite(t, d, env, block, filled('a'), api.ErrBlock)
			checkWrite(t, d, env, block, "", api.ErrBlock)
		}
	}
	for block := range 8 {
		envs := badEnvs
		if block >= 4 {
			envs = append([]int{1}, envs...)
		}
		if block < 4 || block >= 6 {
			envs = append([]int{2}, envs...)
		}
		for _, env := range envs {
			checkNoRead(t, d, env, block, api.ErrOwner)
			checkWrite(t, d, env, block, filled('a'), api.ErrOwner)
			// Whose it is is asked ahead of how long it is.
			checkWrite(t, d, env, block, "", api.ErrOwner)
			checkErr(t, "Write", d.Write(env, block, nil), api.ErrOwner)
		}
	}
	checkState(t, d, true, 0)
	checkErr(t, "Sync", d.Sync(), api.OK)
	checkImage(t, d, "........")
}

func TestP62WriteOfAnotherLength(t *testing.T) {
	d := halved(t)
	checkWrite(t, d, 1, 0, filled('a'), api.OK)
	d.Arm(0)
	checkErr(t, "Write of nil", d.Write(1, 0, nil), api.ErrArg)
	long := filled('b') + filled('c')
	for n := 0; n <= len(long); n++ {
		if n != 256 {
			checkWrite(t, d, 1, 0, long[:n], api.ErrArg)
		}
	}
	// None of them counted, even where the power would have failed.
	checkState(t, d, true, 1)
	checkRead(t, d, 1, 0, filled('a'))
	checkWrite(t, d, 1, 0, long[:256], api.ErrPower)
	checkState(t, d, false, 1)
}

func TestP62Armed(t *testing.T) {
	for k := range 6 {
		d := halved(t)
		checkWrite(t, d, 1, 3, filled('z'), api.OK)
		d.Arm(k)
		for i := range k {
			// What goes wrong doesn't count; nor do reads and syncs.
			checkWrite(t, d, 1, 8, filled('x'), api.ErrBlock)
			checkWrite(t, d, 2, 0, filled('x'), api.ErrOwner)
			checkWrite(t, d, 1, 0, "x", api.ErrArg)
			checkRead(t, d, 1, 3, filled('z'))
			checkState(t, d, true, 1+i)
			checkWrite(t, d, 1+i%2, i%2*4, filled(byte('a'+i)), api.OK)
			checkState(t, d, true, 2+i)
		}
		checkWrite(t, d, 1, 1, filled('y'), api.ErrPower)
		checkState(t, d, false, 1+k)
		checkErr(t, "Revive", d.Revive(1+k), api.OK)
		// The write at which the power failed is lost, and the disk is armed no more.
		checkRead(t, d, 1, 1, filled('.'))
		for i := range 20 {
			checkWrite(t, d, 1, i%4, filled('b'), api.OK)
		}
		checkState(t, d, true, 20)
	}
}

func TestP62ArmedBehindASync(t *testing.T) {
	d := halved(t)
	d.Arm(2)
	checkErr(t, "Sync", d.Sync(), api.OK)
	checkWrite(t, d, 1, 0, filled('a'), api.OK)
	checkErr(t, "Sync", d.Sync(), api.OK)
	checkWrite(t, d, 1, 1, filled('b'), api.OK)
	checkErr(t, "Sync", d.Sync(), api.OK)
	checkWrite(t, d, 1, 2, filled('c'), api.ErrPower)
	checkState(t, d, false, 0)
	checkImage(t, d, "ab......")
}

func TestP62WithoutPower(t *testing.T) {
	d := halved(t)
	checkWrite(t, d, 1, 0, filled('a'), api.OK)
	d.Cut()
	for _, env := range append([]int{1, 2}, badEnvs...) {
		for _, block := range append([]int{0, 4, 6, 7, 8}, badNumbers...) {
			checkNoRead(t, d, env, block, api.ErrPower)
			checkWrite(t, d, env, block, filled('b'), api.ErrPower)
			checkWrite(t, d, env, block, "", api.ErrPower)
		}
	}
	checkErr(t, "Sync", d.Sync(), api.ErrPower)
	checkState(t, d, false, 1)
	checkImage(t, d, "........")
	checkErr(t, "Revive", d.Revive(9), api.OK)
	checkImage(t, d, "a.......")
}

func TestP62NewMemory(t *testing.T) {
	d := halved(t)
	handed := make([]byte, 256, 512)
	copy(handed, filled('a'))
	checkErr(t, "Write", d.Write(1, 0, handed), api.OK)
	if string(handed) != filled('a') {
		t.Fatalf("Write changed what was handed in: %q", handed)
	}
	clear(handed)
	checkRead(t, d, 1, 0, filled('a'))
	// The one time what waits is read, the other time what is durable.
	for range 2 {
		read, _ := d.Read(1, 0)
		again, _ := d.Read(1, 0)
		clear(read)
		if string(again) != filled('a') {
			t.Fatalf("what is told shares memory: %q", again)
		}
		_ = append(again, "more"...)
		copy(again, "more")
		checkRead(t, d, 1, 0, filled('a'))
		checkRead(t, d, 1, 1, filled('.'))
		checkErr(t, "Sync", d.Sync(), api.OK)
		checkImage(t, d, "a.......")
	}
	// What was told stays as it was, whatever becomes of the block.
	kept, _ := d.Read(1, 0)
	image := d.Image()
	checkWrite(t, d, 1, 0, filled('b'), api.OK)
	checkErr(t, "Sync", d.Sync(), api.OK)
	if string(kept) != filled('a') || image[0] != filled('a') {
		t.Errorf("what was told is changed: %q, %q", kept, image[0])
	}
	image[0] = "x"
	checkImage(t, d, "b.......")
}

func TestP63Arm(t *testing.T) {
	d := halved(t)
	d.Arm(0)
	// Below 0: no more.
	for _, k := range []int{-1, -2, math.MinInt32, math.MinInt} {
		d.Arm(0)
		d.Arm(k)
		for range 3 {
			checkWrite(t, d, 1, 0, filled('a'), api.OK)
		}
	}
	checkState(t, d, true, 12)
	// The last one holds.
	d.Arm(0)
	d.Arm(2)
	checkWrite(t, d, 1, 0, filled('a'), api.OK)
	d.Arm(1)
	checkWrite(t, d, 1, 0, filled('a'), api.OK)
	checkWrite(t, d, 1, 0, filled('a'), api.ErrPower)
	checkState(t, d, false, 14)
	checkErr(t, "Revive", d.Revive(0), api.OK)
	for _, k := range []int{math.MaxInt, 1 << 32, math.MaxInt32} {
		d.Arm(k)
		checkWrite(t, d, 1, 0, filled('a'), api.OK)
		checkWrite(t, d, 1, 0, filled('a'), api.OK)
	}
	checkState(t, d, true, 6)
}

func TestP63ArmWithoutPower(t *testing.T) {
	d := halved(t)
	d.Cut()
	d.Arm(1)
	checkState(t, d, false, 0)
	checkWrite(t, d, 1, 0, filled('a'), api.ErrPower)
	checkErr(t, "Revive", d.Revive(0), api.OK)
	checkWrite(t, d, 1, 0, filled('a'), api.OK)
	checkWrite(t, d, 1, 0, filled('a'), api.ErrPower)
	checkState(t, d, false, 1)
	d.Arm(0)
	d.Cut()
	checkErr(t, "Revive", d.Revive(0), api.OK)
	checkWrite(t, d, 1, 0, filled('a'), api.OK)
}

func TestP63Cut(t *testing.T) {
	d := halved(t)
	checkWrite(t, d, 1, 0, filled('a'), api.OK)
	d.Arm(1)
	d.Cut()
	checkState(t, d, false, 1)
	d.Cut()
	checkState(t, d, false, 1)
	checkErr(t, "Revive", d.Revive(1), api.OK)
	checkImage(t, d, "a.......")
	// It is armed no more.
	checkWrite(t, d, 1, 1, filled('b'), api.OK)
	checkWrite(t, d, 1, 1, filled('c'), api.OK)
	checkState(t, d, true, 2)
}

func TestP63Revive(t *testing.T) {
	// What the first keep of the writes leave.
	wants := []string{"........", "a.......", "ab......", "cb......", "cb..d...", "cb..e...", "fb..e..."}
	keeps := append([]int{0, 1, 2, 3, 4, 5, 6, 7, 100}, badNumbers...)
	for _, keep := range keeps {
		d := halved(t)
		for i, block := range []int{0, 1, 0, 4, 4, 0} {
			checkWrite(t, d, 1+block/4, block, filled(byte('a'+i)), api.OK)
		}
		checkErr(t, "Revive with the power on", d.Revive(keep), api.ErrBusy)
		checkState(t, d, true, 6)
		checkImage(t, d, wants[0])
		d.Cut()
		checkState(t, d, false, 6)
		checkImage(t, d, wants[0])
		checkErr(t, "Revive", d.Revive(keep), api.OK)
		want := wants[min(max(keep, 0), 6)]
		checkState(t, d, true, 0)
		checkImage(t, d, want)
		for block := range 6 {
			checkRead(t, d, 1+block/4, block, filled(want[block]))
		}
		// What was lost doesn't come back.
		checkErr(t, "Sync", d.Sync(), api.OK)
		d.Cut()
		checkErr(t, "Revive", d.Revive(6), api.OK)
		checkErr(t, "Revive again", d.Revive(6), api.ErrBusy)
		checkImage(t, d, want)
		checkNoRead(t, d, 2, 0, api.ErrOwner)
		checkErr(t, "Grant", d.Grant(2, 0, 1), api.ErrOwner)
	}
}

func TestP63Size(t *testing.T) {
	d := made(t, 3)
	checkErr(t, "Grant", d.Grant(1, 0, 2), api.OK)
	checkWrite(t, d, 1, 1, filled('a'), api.OK)
	d.Cut()
	if d.Size() != 3 || len(d.Image()) != 3 {
		t.Errorf("%d blocks, %d", d.Size(), len(d.Image()))
	}
	checkErr(t, "Revive", d.Revive(1), api.OK)
	checkImage(t, d, ".a.")
}

// model is a disk by the chapter's words: each block's owner, its durable letter, and a line of blocks and letters.
type model struct {
	owners, blocks []byte
	line           [][2]byte
	on             bool
	armed          int // below 0: it isn't
}

func (m *model) write(env, block, length int, letter byte) api.Errno {
	switch {
	case !m.on:
		return api.ErrPower
	case block < 0 || block >= len(m.blocks):
		return api.ErrBlock
	case env == 0 || int(m.owners[block]) != env:
		return api.ErrOwner
	case length != 256:
		return api.ErrArg
	case m.armed == 0:
		m.on, m.armed = false, -1
		return api.ErrPower
	}
	if m.armed > 0 {
		m.armed--
	}
	m.line = append(m.line, [2]byte{byte(block), letter})
	return api.OK
}

func (m *model) read(env, block int) (byte, api.Errno) {
	switch {
	case !m.on:
		return 0, api.ErrPower
	case block < 0 || block >= len(m.blocks):
		return 0, api.ErrBlock
	case env == 0 || int(m.owners[block]) != env:
		return 0, api.ErrOwner
	}
	letter := m.blocks[block]
	for _, w := range m.line {
		if int(w[0]) == block {
			letter = w[1]
		}
	}
	return letter, api.OK
}

func (m *model) grant(env, first, n int) api.Errno {
	if env < 1 || env > 2 || n <= 0 || first < 0 || first+n > len(m.blocks) {
		return api.ErrArg
	}
	for _, owner := range m.owners[first : first+n] {
		if owner != 0 {
			return api.ErrOwner
		}
	}
	for i := range n {
		m.owners[first+i] = byte(env)
	}
	return api.OK
}

func (m *model) settle(n int) {
	for _, w := range m.line[:n] {
		m.blocks[w[0]] = w[1]
	}
	m.line = nil
}

func (m *model) sync() api.Errno {
	if !m.on {
		return api.ErrPower
	}
	m.settle(len(m.line))
	return api.OK
}

func (m *model) revive(keep int) api.Errno {
	if m.on {
		return api.ErrBusy
	}
	m.settle(max(0, min(keep, len(m.line))))
	m.on = true
	return api.OK
}

// dice tells numbers that look thrown, the same ones each time.
type dice uint64

// roll tells one from 0 to n - 1.
func (d *dice) roll(n int) int {
	*d = *d*6364136223846793005 + 1442695040888963407
	return int(uint64(*d) >> 33 % uint64(n))
}

// checkStep makes one call of both, which the dice choose, and tells its error.
func checkStep(t *testing.T, r *dice, d *Disk, m *model) api.Errno {
	t.Helper()
	env, block := r.roll(4), r.roll(len(m.blocks)+2)-1
	f := api.OK
	switch r.roll(16) {
	case 0:
		n := r.roll(5) - 1
		f = m.grant(env, block, n)
		checkErr(t, "Grant", d.Grant(env, block, n), f)
	case 1:
		f = m.sync()
		checkErr(t, "Sync", d.Sync(), f)
	case 2:
		m.armed = r.roll(8) - 2
		d.Arm(m.armed)
	case 3:
		m.on, m.armed = false, -1
		d.Cut()
	case 4, 5, 6:
		keep := r.roll(12) - 2
		f = m.revive(keep)
		checkErr(t, "Revive", d.Revive(keep), f)
	default:
		letter, length := byte('a'+r.roll(26)), 256-r.roll(8)/7
		f = m.write(env, block, length, letter)
		checkWrite(t, d, env, block, filled(letter)[:length], f)
	}
	return f
}

// check holds all that the disk tells against the model.
func (m *model) check(t *testing.T, d *Disk) {
	t.Helper()
	checkState(t, d, m.on, len(m.line))
	checkImage(t, d, string(m.blocks))
	for block := -1; block <= len(m.blocks); block++ {
		for env := range 4 {
			letter, f := m.read(env, block)
			if f != api.OK {
				checkNoRead(t, d, env, block, f)
			} else {
				checkRead(t, d, env, block, filled(letter))
			}
		}
	}
}

func TestP64AsTheWordsSay(t *testing.T) {
	r := dice(6)
	met := map[api.Errno]int{}
	for i := range 60 {
		n := 1 + i%9
		d := made(t, n)
		m := &model{owners: make([]byte, n), blocks: []byte(strings.Repeat(".", n)), on: true, armed: -1}
		for range 300 {
			met[checkStep(t, &r, d, m)]++
			m.check(t, d)
		}
	}
	for _, e := range []api.Errno{api.OK, api.ErrArg, api.ErrOwner, api.ErrBusy, api.ErrPower, api.ErrBlock} {
		if met[e] < 100 {
			t.Errorf("error %d was met %d times alone", e, met[e])
		}
	}
}

func TestP64WhatIsSyncedStays(t *testing.T) {
	// The power fails at each write behind the sync, and each beginning of those that wait is kept.
	for k := range 9 {
		for keep := -1; keep <= 9; keep++ {
			d := halved(t)
			for block := range 4 {
				checkWrite(t, d, 1, block, filled(byte('a'+block)), api.OK)
			}
			checkErr(t, "Sync", d.Sync(), api.OK)
			d.Arm(k)
			wrote := 0
			for i := range 9 {
				if d.Write(1, i%3, []byte(filled(byte('k'+i)))) != api.OK {
					break
				}
				wrote++
			}
			d.Cut()
			checkErr(t, "Revive", d.Revive(keep), api.OK)
			want := []byte("abcd....")
			for i := range max(0, min(keep, wrote)) {
				want[i%3] = byte('k' + i)
			}
			if wrote != k {
				t.Fatalf("Arm(%d): %d were written", k, wrote)
			}
			checkImage(t, d, string(want))
			// What stood behind a sync is there behind each failure that follows.
			d.Cut()
			checkErr(t, "Revive", d.Revive(9), api.OK)
			checkImage(t, d, string(want))
		}
	}
}
