package store

import (
	"bytes"
	"fmt"
	"math"
	"slices"
	"strings"
	"testing"

	"pantler/api"
	"pantler/inode"
	"pantler/kern"
)

// seconds of files, and numbers that are none.
var (
	badTimes  = []int64{-1, -2, 253402300800, math.MaxInt64, math.MinInt64}
	goodTimes = []int64{0, 1, 784111777, 253402300799}
)

// made tells a new kernel of so many blocks.
func made(t *testing.T, blocks int) *kern.Kernel {
	t.Helper()
	k, e := kern.New(1, blocks)
	if e != api.OK {
		t.Fatalf("kern.New(1, %d): %d", blocks, e)
	}
	return k
}

// mounted tells the store of what is on the kernel's disk.
func mounted(t *testing.T, k *kern.Kernel) *Store {
	t.Helper()
	s, e := Mount(k)
	if s == nil || e != api.OK {
		t.Fatalf("Mount: %v, %d", s, e)
	}
	return s
}

// fresh tells a new kernel of so many blocks, and a store without files on it.
func fresh(t *testing.T, blocks int) (*kern.Kernel, *Store) {
	t.Helper()
	k := made(t, blocks)
	if e := Format(k); e != api.OK {
		t.Fatalf("Format: %d", e)
	}
	return k, mounted(t, k)
}

// put writes text, and 0 behind it, to a block of whoever owns it; it waits.
func put(t *testing.T, k *kern.Kernel, block int, text string) {
	t.Helper()
	env := 1
	if block >= k.Disk().Size()-k.Disk().Size()/4 {
		env = 2
	}
	if _, e := k.Call(kern.Call{Op: 7, Env: env, A: block, Bytes: []byte((text + zeros)[:256])}); e != api.OK {
		t.Fatalf("block %d can't be written: %d", block, e)
	}
}

// root, dir and file tell sealed blocks.
func root(gen int, dirs ...int) string {
	return packed(inode.PackRoot(inode.Root{Gen: gen, Dirs: dirs}))
}
func dir(l ...inode.Entry) string          { return packed(inode.PackDir(l)) }
func entry(name string, n int) inode.Entry { return inode.Entry{Name: name, Inode: n} }

// file tells the block of the file that has text on the blocks l.
func file(version int, text string, l ...int) string {
	f := inode.File{Version: version, Mtime: 5, Length: len(text), Blocks: l}
	for _, piece := range cut(text) {
		f.Parts = append(f.Parts, partOf(piece))
	}
	return packed(inode.PackFile(f))
}

// filler tells n bytes, which hang on what they begin with.
func filler(from byte, n int) string {
	b := make([]byte, n)
	for i := range b {
		b[i] = from + byte(i*7) + byte(i>>8)
	}
	return string(b)
}

// checkErr publishes what goes wrong.
func checkErr(t *testing.T, s *Store, name string, length int, mtime int64, want api.Errno) {
	t.Helper()
	if l, e := s.Publish(name, make([]byte, length), mtime); len(l) != 0 || e != want {
		t.Errorf("Publish(%q, %d bytes, %d): %v, %d; not %d", name, length, mtime, l, e, want)
	}
}

// checkMount mounts what can't be mounted.
func checkMount(t *testing.T, k *kern.Kernel, want api.Errno) {
	t.Helper()
	if s, e := Mount(k); s != nil || e != want {
		t.Errorf("Mount: %v, %d; not %d", s, e, want)
	}
}

func TestP121Format(t *testing.T) {
	for _, blocks := range []int{4, 5, 52, 511, 512} {
		k := made(t, blocks)
		checkMount(t, k, api.ErrMount)
		if e := Format(k); e != api.OK {
			t.Fatalf("Format: %d", e)
		}
		checkDisk(t, k, modelOf(blocks))
	}
}

func TestP121FormatOfADiskThatHasSomething(t *testing.T) {
	k, s := fresh(t, 40)
	m := modelOf(40)
	checkPublish(t, s, m, "a", filler('a', 600), 1)
	checkPublish(t, s, m, "b", "b", 1)
	put(t, k, 0, root(1<<30, 5))
	put(t, k, 39, "the other one's")
	if e := Format(k); e != api.OK {
		t.Fatalf("Format: %d", e)
	}
	// All blocks but 0 and 1 are as they were, and what waited is durable.
	image := slices.Clone(m.image)
	image[0], image[1], image[39] = zeros, root(1), ("the other one's" + zeros)[:256]
	checkImage(t, k, image)
	s = mounted(t, k)
	if s.Gen() != 1 || len(s.Names()) != 0 {
		t.Errorf("Mount: %d, %q", s.Gen(), s.Names())
	}
	if _, e := s.Lookup("a"); e != api.ErrNone {
		t.Errorf("Lookup: %d", e)
	}
}

func TestP121FormatErrors(t *testing.T) {
	if e := Format(nil); e != api.ErrNil {
		t.Errorf("Format of nil: %d", e)
	}
	k := made(t, 8)
	k.Disk().Cut()
	if e := Format(k); e != api.ErrPower || k.Disk().Waits() != 0 {
		t.Errorf("Format without power: %d", e)
	}
	for armed := range 2 {
		k := made(t, 8)
		k.Disk().Arm(armed)
		if e := Format(k); e != api.ErrPower || k.Disk().On() || k.Disk().Waits() != armed {
			t.Errorf("Format, armed with %d: %d, %d wait", armed, e, k.Disk().Waits())
		}
		k.Disk().Revive(9)
		checkMount(t, k, api.ErrMount)
	}
	k = made(t, 8)
	k.Disk().Arm(2)
	if e := Format(k); e != api.OK || !k.Disk().On() || k.Disk().Waits() != 0 {
		t.Errorf("Format, armed with 2: %d", e)
	}
}

func TestP121FormatWritesBlock0First(t *testing.T) {
	k := made(t, 8)
	put(t, k, 0, root(2))
	put(t, k, 1, root(3))
	k.Disk().Cut()
	k.Disk().Revive(2)
	k.Disk().Arm(1)
	if e := Format(k); e != api.ErrPower {
		t.Fatalf("Format: %d", e)
	}
	k.Disk().Revive(1)
	if image := k.Disk().Image(); image[0] != zeros || image[1] != root(3) {
		t.Errorf("the blocks 0 and 1: %q, %q", image[0], image[1])
	}
}

func TestP121MountErrors(t *testing.T) {
	checkMount(t, nil, api.ErrNil)
	for _, format := range []bool{false, true} {
		k := made(t, 8)
		if format {
			Format(k)
		}
		k.Disk().Cut()
		checkMount(t, k, api.ErrPower)
		k.Disk().Revive(0)
		if _, e := Mount(k); (e == api.OK) != format {
			t.Errorf("Mount: %d", e)
		}
	}
}

// Nothing is said of what comes of a kernel or a store that no call made, but that the calls end.
func TestP121P123OfWhatIsZero(t *testing.T) {
	var k kern.Kernel
	Format(&k)
	Mount(&k)
	var s Store
	s.Names()
	s.Gen()
	s.Lookup("a")
	s.Bytes("a")
	s.Publish("a", nil, 0)
}

func TestP121P123OfNil(t *testing.T) {
	var s *Store
	if s.Names() != nil || s.Gen() != 0 {
		t.Errorf("of nil: %q, %d", s.Names(), s.Gen())
	}
	for _, name := range []string{"a", "", "..", "/"} {
		if f, e := s.Lookup(name); e != api.ErrNil || !sameFile(f, inode.File{}) {
			t.Errorf("Lookup of nil: %+v, %d", f, e)
		}
		if b, e := s.Bytes(name); e != api.ErrNil || b != nil {
			t.Errorf("Bytes of nil: %q, %d", b, e)
		}
		checkErr(t, s, name, 0, 0, api.ErrNil)
		checkErr(t, s, name, 9000, -1, api.ErrNil)
	}
}

func TestP121MountTakesTheGreaterGen(t *testing.T) {
	tests := []struct {
		even, odd string
		want      int // 0: none can be mounted
	}{
		{root(2), root(1), 2},
		{root(2), root(3), 3},
		{root(2), root(1<<30 - 1), 1<<30 - 1},
		{root(1 << 30), root(1<<30 - 1), 1 << 30},
		{zeros, root(5), 5},
		{root(6), zeros, 6},
		{root(6), dir(entry("a", 2)), 6},
		{file(1, ""), root(7), 7},
		{zeros, zeros, 0},
		{dir(entry("a", 2)), file(1, ""), 0},
		// A root that stands at the other's place is none.
		{root(1), zeros, 0},
		{zeros, root(2), 0},
		{root(9), root(8), 0},
		{root(9), root(3), 3},
		{root(4), root(8), 4},
		{root(5), root(5), 5},
		// One whose sum doesn't fit is none.
		{"x" + root(8)[1:], root(3), 3},
		{root(8)[:200] + "x" + root(8)[201:], root(3), 3},
		{root(8), root(9)[:255] + "x", 8},
		{root(8)[:255] + "x", root(9)[:255] + "x", 0},
	}
	for i, c := range tests {
		k := made(t, 8)
		put(t, k, 0, c.even)
		put(t, k, 1, c.odd)
		if c.want == 0 {
			checkMount(t, k, api.ErrMount)
			continue
		}
		// It changes nothing, and reads what waits.
		if s := mounted(t, k); s.Gen() != c.want || len(s.Names()) != 0 || k.Disk().Waits() != 2 {
			t.Errorf("%d: Gen %d, not %d; %d wait", i, s.Gen(), c.want, k.Disk().Waits())
		}
	}
}

// planted tells a kernel with a tree that Publish wouldn't lay so: blocks by chance, directories that aren't full.
func planted(t *testing.T) *kern.Kernel {
	t.Helper()
	k := made(t, 64)
	put(t, k, 0, root(6))
	put(t, k, 1, root(7, 10, 11))
	put(t, k, 10, dir(entry("a", 20), entry("b", 21)))
	put(t, k, 11, dir(entry("c/d", 22)))
	put(t, k, 20, file(3, filler('a', 300), 31, 30))
	put(t, k, 21, file(1<<30, ""))
	put(t, k, 22, file(1, filler('c', 256), 32))
	put(t, k, 31, filler('a', 300)[:256])
	// What stands behind the file's bytes counts for nothing.
	put(t, k, 30, filler('a', 300)[256:]+"and what was there")
	put(t, k, 32, filler('c', 256))
	return k
}

func TestP121MountOfAnyTree(t *testing.T) {
	k := planted(t)
	waits := k.Disk().Waits()
	s := mounted(t, k)
	if s.Gen() != 7 || !slices.Equal(s.Names(), []string{"a", "b", "c/d"}) || k.Disk().Waits() != waits {
		t.Errorf("Mount: %d, %q", s.Gen(), s.Names())
	}
	for name, want := range map[string]string{"a": filler('a', 300), "b": "", "c/d": filler('c', 256)} {
		if b, e := s.Bytes(name); e != api.OK || string(b) != want {
			t.Errorf("Bytes(%q): %q, %d", name, b, e)
		}
	}
	f, e := s.Lookup("a")
	want := inode.File{Version: 3, Mtime: 5, Length: 300, Blocks: []int{31, 30}, Parts: []complex128{partOf(filler('a', 300)[:256]), partOf(filler('a', 300)[256:])}}
	if e != api.OK || !sameFile(f, want) {
		t.Errorf("Lookup: %+v, %d; not %+v", f, e, want)
	}
	// The least free blocks are those between the tree's.
	if l, e := s.Publish("bb", []byte(filler('b', 256*10)), 1); e != api.OK || !slices.Equal(l, []int{2, 3, 4, 5, 6, 7, 8, 9, 12, 13, 14, 15}) {
		t.Errorf("Publish: %v, %d", l, e)
	}
	s = mounted(t, k)
	if f, e := s.Lookup("a"); e != api.OK || !sameFile(f, want) {
		t.Errorf("Lookup: %+v, %d; not %+v", f, e, want)
	}
	// The elder directories are free now.
	if l, e := s.Publish("z", []byte(filler('z', 256*6)), 1); e != api.OK || !slices.Equal(l, []int{10, 11, 16, 17, 18, 19, 23, 24}) {
		t.Errorf("Publish: %v, %d", l, e)
	}
}

func TestP121MountOfTreesThatMayNotBe(t *testing.T) {
	a, c := filler('a', 300), filler('c', 256)
	wrongPart := func(z complex128) string {
		return packed(inode.PackFile(inode.File{Version: 1, Length: 256, Blocks: []int{32}, Parts: []complex128{z}}))
	}
	tests := map[string]map[int]string{
		"a directory that is 0":               {1: root(7, 10, 12)},
		"a directory that is a file":          {1: root(7, 10, 20)},
		"a directory that is a root":          {1: root(7, 10, 40), 40: root(7)},
		"a directory whose sum is wrong":      {11: "D" + dir(entry("c/d", 22))[1:255] + "x"},
		"a directory twice":                   {1: root(7, 10, 10)},
		"a directory twice, apart":            {1: root(7, 10, 11, 10)},
		"directories in the other order":      {1: root(7, 11, 10)},
		"a directory of the other one":        {1: root(7, 10, 48), 48: dir(entry("c/d", 22))},
		"a directory that isn't there":        {1: root(7, 10, 11, 64)},
		"a directory far behind the disk":     {1: root(7, 10, 11, 511)},
		"a name twice":                        {10: dir(entry("a", 20), entry("a", 21))},
		"names that fall":                     {10: dir(entry("b", 20), entry("a", 21))},
		"a name twice, in two directories":    {11: dir(entry("b", 22))},
		"names that fall, in two directories": {11: dir(entry("B", 22))},
		"a name behind a longer one":          {10: dir(entry("a.txt", 20), entry("a", 21))},
		"names that fall by the /":            {10: dir(entry("a/b", 20), entry("a-b", 21))},
		"a file that is 0":                    {11: dir(entry("c/d", 40))},
		"a file that is a directory":          {11: dir(entry("c/d", 40)), 40: dir(entry("c/d", 22))},
		"a file that is its directory":        {11: dir(entry("c/d", 11))},
		"a file that is bytes":                {11: dir(entry("c/d", 32))},
		"a file whose sum is wrong":           {22: file(1, c, 32)[:200] + "x"},
		"a file twice":                        {11: dir(entry("c/d", 21))},
		"a file twice in a directory":         {10: dir(entry("a", 21), entry("b", 21))},
		"a file of the other one":             {11: dir(entry("c/d", 63)), 63: file(1, c, 32)},
		"a file that isn't there":             {11: dir(entry("c/d", 64))},
		"a block twice in a file":             {22: file(1, c+c, 32, 32)},
		"a block of two files":                {21: file(1, c, 32)},
		"bytes that are a directory":          {22: file(1, dir(entry("c/d", 22)), 11)},
		"bytes that are a later directory":    {20: file(1, dir(entry("c/d", 22)), 11)},
		"bytes that are another file":         {22: file(1, file(1<<30, ""), 21)},
		"bytes that are a later file":         {20: file(1, file(1, c, 32), 22)},
		"bytes of the other one":              {22: file(1, c, 48), 48: c},
		"bytes that aren't there":             {22: file(1, c, 64)},
		"bytes that aren't there, and are 0":  {22: file(1, zeros, 64)},
		"a block that was turned":             {32: c[:100] + "\xff" + c[101:]},
		"the last byte was turned":            {30: a[256:299] + "\xff"},
		"a part of one more":                  {22: wrongPart(partOf(c) + 1)},
		"a part of one less":                  {22: wrongPart(partOf(c) - 1i)},
		"a part that is turned":               {22: wrongPart(complex(imag(partOf(c)), real(partOf(c))))},
		"a part of the same sum":              {22: wrongPart(partOf(c) + 1 - 256i)},
		"the parts of another order":          {20: file(3, a, 30, 31)},
		"a part of the whole block":           {20: file(3, a, 31, 30), 21: file(1, "x", 33), 33: "y"},
	}
	for what, changes := range tests {
		k := planted(t)
		for block, text := range changes {
			put(t, k, block, text)
		}
		if s, e := Mount(k); s != nil || e != api.ErrMount {
			t.Errorf("%s: %v, %d", what, s, e)
		}
		// The root with the lesser Gen, whose tree may be, isn't taken instead.
		put(t, k, 1, zeros)
		if s := mounted(t, k); s.Gen() != 6 {
			t.Errorf("%s: Gen %d", what, s.Gen())
		}
	}
}

// manyFiles tells a kernel with four directories that have so many files each.
func manyFiles(t *testing.T, counts ...int) (*kern.Kernel, []string) {
	t.Helper()
	k := made(t, 80)
	next := 10
	var names []string
	var dirs []int
	for i, n := range counts {
		var l []inode.Entry
		for range n {
			name := fmt.Sprintf("f%d", next)
			put(t, k, next, file(1, ""))
			l = append(l, entry(name, next))
			names = append(names, name)
			next++
		}
		put(t, k, 2+i, dir(l...))
		dirs = append(dirs, 2+i)
	}
	put(t, k, 0, root(2, dirs...))
	return k, names
}

func TestP121MountOfMostFiles(t *testing.T) {
	for _, counts := range [][]int{{8, 8, 8}, {8, 8, 7, 1}, {6, 6, 6, 6}, {1, 1, 1, 1}, {1}, {8}, {3, 8}} {
		k, names := manyFiles(t, counts...)
		if s := mounted(t, k); !slices.Equal(s.Names(), names) {
			t.Errorf("Names: %q, not %q", s.Names(), names)
		}
	}
	for _, counts := range [][]int{{8, 8, 8, 1}, {7, 6, 6, 6}, {8, 8, 8, 8}} {
		k, _ := manyFiles(t, counts...)
		checkMount(t, k, api.ErrMount)
	}
}

func TestP122Names(t *testing.T) {
	_, s := fresh(t, 100)
	if l := s.Names(); len(l) != 0 {
		t.Errorf("Names: %q", l)
	}
	var want []string
	for _, name := range []string{"m", "a/b", "a0", "Z", "a", "_", "a.b", "ab", "a-b", "0", "a/a", "-"} {
		s.Publish(name, nil, 0)
		want = append(want, name)
		slices.SortFunc(want, func(a, b string) int { return bytes.Compare([]byte(a), []byte(b)) })
		if l := s.Names(); !slices.Equal(l, want) {
			t.Errorf("Names: %q, not %q", l, want)
		}
	}
	if l := s.Names(); !slices.Equal(l, []string{"-", "0", "Z", "_", "a", "a-b", "a.b", "a/a", "a/b", "a0", "ab", "m"}) {
		t.Errorf("Names: %q", l)
	}
}

func TestP122Lookup(t *testing.T) {
	_, s := fresh(t, 100)
	m := modelOf(100)
	for _, name := range []string{"b.txt", "a", "c/d"} {
		for i, mtime := range goodTimes {
			checkPublish(t, s, m, name, filler(name[0], 300*i), mtime)
			if f, e := s.Lookup(name); e != api.OK || f.Version != 1+i || f.Mtime != mtime || f.Length != 300*i || !sameFile(f, m.file(name)) {
				t.Errorf("Lookup(%q): %+v, %d", name, f, e)
			}
		}
	}
}

func TestP122Errors(t *testing.T) {
	k, s := fresh(t, 100)
	s.Publish("b.txt", []byte("b"), 1)
	tests := map[string]api.Errno{
		"a": api.ErrNone, "b": api.ErrNone, "b.tx": api.ErrNone, "b.txt2": api.ErrNone, "B.txt": api.ErrNone, "c": api.ErrNone, "b.txt/x": api.ErrNone, strings.Repeat("x", 24): api.ErrNone,
		"": api.ErrPath, "/": api.ErrPath, "/b.txt": api.ErrPath, "b.txt/": api.ErrPath, "../c": api.ErrPath, ".": api.ErrPath, "b.txt\x00": api.ErrPath, "b%2Etxt": api.ErrPath, strings.Repeat("x", 25): api.ErrPath,
	}
	for _, on := range []bool{true, false} {
		if !on {
			k.Disk().Cut()
		}
		for name, want := range tests {
			if f, e := s.Lookup(name); e != want || !sameFile(f, inode.File{}) {
				t.Errorf("Lookup(%q): %+v, %d; not %d", name, f, e, want)
			}
			if b, e := s.Bytes(name); e != want || b != nil {
				t.Errorf("Bytes(%q): %q, %d; not %d", name, b, e, want)
			}
		}
	}
}

func TestP122WithoutPower(t *testing.T) {
	k, s := fresh(t, 100)
	m := modelOf(100)
	checkPublish(t, s, m, "a", filler('a', 700), 1)
	checkPublish(t, s, m, "empty", "", 1)
	k.Disk().Cut()
	for _, name := range s.Names() {
		if b, e := s.Bytes(name); e != api.ErrPower || b != nil {
			t.Errorf("Bytes(%q): %q, %d", name, b, e)
		}
		if f, e := s.Lookup(name); e != api.OK || !sameFile(f, m.file(name)) {
			t.Errorf("Lookup(%q): %+v, %d", name, f, e)
		}
	}
	if len(s.Names()) != 2 || s.Gen() != 3 {
		t.Errorf("%q, %d", s.Names(), s.Gen())
	}
	k.Disk().Revive(0)
	checkTree(t, s, m)
	// No call asked it to write meanwhile: it isn't dead.
	checkPublish(t, s, m, "a", "new", 1)
	checkDisk(t, k, m)
}

func TestP122BytesOfEachLength(t *testing.T) {
	k, s := fresh(t, 512)
	m := modelOf(512)
	for _, n := range []int{0, 1, 2, 255, 256, 257, 511, 512, 513, 600, 1023, 1024, 7935, 7936, 7937, 8191, 8192} {
		checkPublish(t, s, m, "a", filler(byte(n), n), int64(n))
		checkTree(t, s, m)
		checkDisk(t, k, m)
	}
}

func TestP122P123NothingIsShared(t *testing.T) {
	k, s := fresh(t, 100)
	m := modelOf(100)
	b := []byte(filler('a', 700))
	l, _ := s.Publish("a", b, 1)
	want, _ := m.publish("a", filler('a', 700), 1)
	if string(b) != filler('a', 700) {
		t.Errorf("what was handed in changed")
	}
	clear(b)
	checkTree(t, s, m)
	if !slices.Equal(l, want) {
		t.Errorf("Publish: %v", l)
	}
	clear(l)
	clear(l[:cap(l)])
	clear(s.Names())
	f, _ := s.Lookup("a")
	clear(f.Blocks)
	clear(f.Parts)
	text, _ := s.Bytes("a")
	clear(text)
	checkTree(t, s, m)
	checkPublish(t, s, m, "b", "b", 1)
	checkTree(t, s, m)
	checkDisk(t, k, m)
}

func TestP122StoresApart(t *testing.T) {
	// Two stores of one disk: what one publishes the other doesn't know, till it is mounted again.
	k, s := fresh(t, 100)
	m := modelOf(100)
	checkPublish(t, s, m, "a", filler('a', 700), 1)
	other := mounted(t, k)
	elder := m.copy()
	checkPublish(t, s, m, "a", "new", 1)
	checkTree(t, other, elder)
	checkTree(t, s, m)
	checkDisk(t, k, m)
}

func TestP123Example(t *testing.T) {
	k, s := fresh(t, 52)
	m := modelOf(52)
	if s.Gen() != 1 || len(s.Names()) != 0 {
		t.Errorf("the chapter's example: %d, %q", s.Gen(), s.Names())
	}
	l, e := s.Publish("b.txt", []byte(filler('b', 600)), 784111777)
	if e != api.OK || !slices.Equal(l, []int{2, 3, 4, 5, 6}) || s.Gen() != 2 {
		t.Errorf("Publish: %v, %d", l, e)
	}
	m.publish("b.txt", filler('b', 600), 784111777)
	checkDisk(t, k, m)
	image := k.Disk().Image()
	if image[4][:88] != filler('b', 600)[512:] || image[4][88:] != zeros[88:] {
		t.Errorf("the last block: %q", image[4])
	}
	if image[6] != dir(entry("b.txt", 5)) || image[0] != root(2, 6) || image[1] != root(1) {
		t.Errorf("the directory and the roots: %q, %q, %q", image[6], image[0], image[1])
	}
	// The elder bytes stay till the root is written: of blocks that were free the least ones are taken.
	if l, e = s.Publish("b.txt", []byte("new"), 5); e != api.OK || !slices.Equal(l, []int{7, 8, 9}) || s.Gen() != 3 {
		t.Errorf("Publish: %v, %d", l, e)
	}
	if image = k.Disk().Image(); image[1] != root(3, 9) || image[0] != root(2, 6) || image[2] != filler('b', 600)[:256] {
		t.Errorf("the roots: %q, %q", image[1], image[0])
	}
	if l, e = s.Publish("a", nil, 5); e != api.OK || !slices.Equal(l, []int{2, 3}) {
		t.Errorf("Publish: %v, %d", l, e)
	}
	if image = k.Disk().Image(); image[3] != dir(entry("a", 2), entry("b.txt", 8)) {
		t.Errorf("the directory: %q", image[3])
	}
}

func TestP123ErrorsInOrder(t *testing.T) {
	k, s := fresh(t, 8)
	m := modelOf(8)
	checkPublish(t, s, m, "a", "a", 1)
	for _, name := range []string{"", "/", "/a", "..", "a/../b", "a b", "a%2Eb", "a\x00", strings.Repeat("x", 25), strings.Repeat("x", 1<<16)} {
		checkErr(t, s, name, 0, 1, api.ErrPath)
		checkErr(t, s, name, 8193, -1, api.ErrPath)
	}
	for _, n := range []int{8193, 8194, 1 << 16, 1 << 20} {
		checkErr(t, s, "a", n, 1, api.ErrLong)
		checkErr(t, s, "a", n, -1, api.ErrLong)
	}
	for _, mtime := range badTimes {
		checkErr(t, s, "a", 0, mtime, api.ErrArg)
		checkErr(t, s, "a", 8192, mtime, api.ErrArg)
	}
	// It's told ahead of any write that there is no room.
	k.Disk().Arm(0)
	checkErr(t, s, "a", 8192, 1, api.ErrFull)
	if !k.Disk().On() {
		t.Errorf("the power failed")
	}
	k.Disk().Arm(-1)
	checkTree(t, s, m)
	checkDisk(t, k, m)
	// None of these errors ended the store.
	checkErr(t, s, "a", 257, 1, api.ErrFull)
	checkDisk(t, k, m)
	k, s = fresh(t, 12)
	checkErr(t, s, "a", 8192, 1, api.ErrFull)
	checkPublish(t, s, modelOf(12), "a", "a", 1)
}

func TestP123WithoutPower(t *testing.T) {
	k, s := fresh(t, 20)
	m := modelOf(20)
	checkPublish(t, s, m, "a", filler('a', 300), 1)
	k.Disk().Cut()
	// What may not be published doesn't end the store, whether the power is on or not.
	checkErr(t, s, "..", 0, 1, api.ErrPath)
	checkErr(t, s, "a", 8193, 1, api.ErrLong)
	checkErr(t, s, "a", 0, -1, api.ErrArg)
	k.Disk().Revive(0)
	checkPublish(t, s, m, "b", "b", 1)
	k.Disk().Cut()
	// That there is no room, too, isn't asked.
	checkErr(t, s, "a", 8192, 1, api.ErrPower)
	k.Disk().Revive(0)
	dead(t, k, s, m)
}

// dead holds a store that is dead, though the power is on, against the model.
func dead(t *testing.T, k *kern.Kernel, s *Store, m *model) {
	t.Helper()
	for range 2 {
		checkErr(t, s, "a", 0, 1, api.ErrPower)
		checkErr(t, s, "c", 8192, 1, api.ErrPower)
		checkErr(t, s, "..", 8193, -1, api.ErrPath)
		checkErr(t, s, "a", 8193, -1, api.ErrLong)
		checkErr(t, s, "a", 0, -1, api.ErrArg)
	}
	// What is read is as it was.
	checkTree(t, s, m)
	again := mounted(t, k)
	checkTree(t, again, m)
	checkPublish(t, again, m, "a", "again", 1)
	checkDisk(t, k, m)
	checkErr(t, s, "a", 0, 1, api.ErrPower)
}

func TestP123Dead(t *testing.T) {
	for armed := range 4 {
		k, s := fresh(t, 20)
		m := modelOf(20)
		checkPublish(t, s, m, "b", "b", 1)
		k.Disk().Arm(armed)
		checkErr(t, s, "a", 1, 1, api.ErrPower)
		if k.Disk().On() {
			t.Errorf("armed with %d: the power is on", armed)
		}
		checkErr(t, s, "a", 1, 1, api.ErrPower)
		k.Disk().Revive(armed)
		dead(t, k, s, m)
	}
}

func TestP123FullOfBlocks(t *testing.T) {
	// Of n blocks n - 3 are the most, at the beginning: beside the roots there are the file and its directory.
	for _, blocks := range []int{4, 5, 6, 7, 8, 11, 16, 31, 40, 48} {
		own := blocks - blocks/4
		most := min(own-4, 32)
		for n := range 33 {
			k, s := fresh(t, blocks)
			m := modelOf(blocks)
			want := api.OK
			if n > most {
				want = api.ErrFull
			}
			if e := checkPublish(t, s, m, "a", filler('a', n*256), 1); e != want {
				t.Errorf("%d blocks, %d bytes: %d", blocks, n*256, e)
			}
			// Whatever is left, what is there can be replaced if the new one stands beside it.
			checkPublish(t, s, m, "a", "new", 1)
			checkPublish(t, s, m, "a", "", 1)
			checkPublish(t, s, m, "b", "", 1)
			checkTree(t, s, m)
			checkDisk(t, k, m)
		}
	}
}

func TestP123FullOfFiles(t *testing.T) {
	k, s := fresh(t, 200)
	m := modelOf(200)
	for i := range 24 {
		name := fmt.Sprintf("f%d", i*7%24)
		if e := checkPublish(t, s, m, name, name, 1); e != api.OK {
			t.Fatalf("%d files: %d", i, e)
		}
	}
	for _, name := range []string{"a", "f", "z"} {
		checkErr(t, s, name, 0, 1, api.ErrFull)
		checkErr(t, s, name, 5000, 1, api.ErrFull)
	}
	checkDisk(t, k, m)
	for _, name := range []string{"f0", "f9", "f23"} {
		if e := checkPublish(t, s, m, name, filler('f', 1000), 2); e != api.OK {
			t.Errorf("Publish(%q): %d", name, e)
		}
	}
	checkTree(t, s, m)
	checkDisk(t, k, m)
	checkErr(t, s, "z", 0, 1, api.ErrFull)
}

func TestP123Directories(t *testing.T) {
	// Each directory has 8 entries but the last one, wherever a name comes in.
	k, s := fresh(t, 200)
	m := modelOf(200)
	for i := range 24 {
		name := string(rune('x' - i%12*2 + i/12))
		l, e := s.Publish(name, nil, 1)
		m.publish(name, "", 1)
		if e != api.OK || len(l) != 1+(i+8)/8 {
			t.Errorf("%d files: %v, %d", i+1, l, e)
		}
		checkTree(t, s, m)
		checkDisk(t, k, m)
	}
	if l, e := s.Publish("x", nil, 1); e != api.OK || len(l) != 4 {
		t.Errorf("24 files: %v, %d", l, e)
	}
}

func TestP123DirectoriesBecomeFull(t *testing.T) {
	// A tree whose directories weren't full is laid anew.
	k, names := manyFiles(t, 1, 3, 2, 4)
	s := mounted(t, k)
	l, e := s.Publish(names[3], nil, 9)
	if e != api.OK || len(l) != 3 {
		t.Fatalf("Publish: %v, %d", l, e)
	}
	first, e := inode.ParseDir([]byte(k.Disk().Image()[l[1]]))
	if e != api.OK || len(first) != 8 || first[3] != entry(names[3], l[0]) || first[4] != entry(names[4], 14) {
		t.Errorf("the first directory: %v, %d", first, e)
	}
	second, e := inode.ParseDir([]byte(k.Disk().Image()[l[2]]))
	if e != api.OK || len(second) != 2 || second[1] != entry(names[9], 19) {
		t.Errorf("the second directory: %v, %d", second, e)
	}
	if image := k.Disk().Image(); image[1] != root(3, l[1], l[2]) {
		t.Errorf("the root: %q", image[1])
	}
}

func TestP123FullOfGens(t *testing.T) {
	k := planted(t)
	put(t, k, 1, root(1<<30-1, 10, 11))
	s := mounted(t, k)
	if l, e := s.Publish("a", []byte("new"), 1); e != api.OK || len(l) != 3 || s.Gen() != 1<<30 {
		t.Fatalf("Publish: %v, %d", l, e)
	}
	checkErr(t, s, "a", 3, 1, api.ErrFull)
	checkErr(t, s, "z", 0, 1, api.ErrFull)
	s = mounted(t, k)
	if f, e := s.Lookup("a"); e != api.OK || f.Version != 4 || s.Gen() != 1<<30 {
		t.Errorf("Lookup: %+v, %d", f, e)
	}
	checkErr(t, s, "a", 3, 1, api.ErrFull)
	if b, e := s.Bytes("a"); e != api.OK || string(b) != "new" || k.Disk().Waits() != 0 {
		t.Errorf("Bytes: %q, %d", b, e)
	}
}

func TestP123FullOfVersions(t *testing.T) {
	k := planted(t)
	put(t, k, 20, file(1<<30-1, filler('a', 300), 31, 30))
	s := mounted(t, k)
	checkErr(t, s, "b", 3, 1, api.ErrFull)
	if l, e := s.Publish("a", []byte("new"), 1); e != api.OK || len(l) != 3 {
		t.Fatalf("Publish: %v, %d", l, e)
	}
	if f, e := s.Lookup("a"); e != api.OK || f.Version != 1<<30 {
		t.Errorf("Lookup: %+v, %d", f, e)
	}
	checkErr(t, s, "a", 3, 1, api.ErrFull)
	// Other files may be published still.
	if l, e := s.Publish("c", nil, 1); e != api.OK || len(l) != 2 || s.Gen() != 9 {
		t.Errorf("Publish: %v, %d", l, e)
	}
	checkErr(t, mounted(t, k), "b", 3, 1, api.ErrFull)
}

func TestP123WhatWaitsOfTheOtherOne(t *testing.T) {
	k, s := fresh(t, 40)
	m := modelOf(40)
	put(t, k, 35, "the other one's")
	checkPublish(t, s, m, "a", filler('a', 300), 1)
	m.image[35] = ("the other one's" + zeros)[:256]
	checkDisk(t, k, m)
}

// published is what is published in a row.
type published struct {
	name, text string
}

// scripts are rows of which each Publish is looked at with a power that fails.
func scripts() [][]published {
	var many []published
	for i := range 18 {
		many = append(many, published{string(rune('a' + i*5%18)), filler(byte(i), i*40)})
	}
	return [][]published{
		{{"a", ""}, {"a", ""}, {"a", "x"}, {"a", ""}},
		{{"b.txt", filler('b', 600)}, {"a", filler('a', 256)}, {"b.txt", filler('n', 300)}, {"c", ""}, {"b.txt", filler('m', 1000)}},
		{{"a", filler('a', 8192)}, {"a", filler('b', 8192)}, {"a", filler('c', 8192)}},
		many,
	}
}

func TestP124EachWriteThatFails(t *testing.T) {
	for _, script := range scripts() {
		ahead := modelOf(150)
		for i, x := range script {
			behind := ahead.copy()
			taken, e := behind.publish(x.name, x.text, int64(i))
			if e != api.OK {
				t.Fatalf("no test: %d", e)
			}
			for armed := 0; armed <= len(taken); armed++ {
				for _, keep := range []int{-1, 0, 1, 2, armed - 1, armed, armed + 1, 1000} {
					failing(t, ahead, behind, taken, x, int64(i), armed, keep)
				}
			}
			holding(t, ahead, behind, taken, x, int64(i))
			ahead = behind
		}
	}
}

// laid tells a kernel whose disk is as the model's.
func laid(t *testing.T, m *model) *kern.Kernel {
	t.Helper()
	k := made(t, len(m.image))
	for block, text := range m.image {
		put(t, k, block, text)
	}
	if _, e := k.Call(kern.Call{Op: 8, Env: 1}); e != api.OK {
		t.Fatalf("Sync: %d", e)
	}
	return k
}

// failing lets the power fail behind so many writes of a Publish, of which keep are kept: all is as ahead of it.
func failing(t *testing.T, ahead, behind *model, taken []int, x published, mtime int64, armed, keep int) {
	t.Helper()
	k := laid(t, ahead)
	s := mounted(t, k)
	k.Disk().Arm(armed)
	checkErrOf(t, s, x, mtime)
	// What the root leads to was durable ahead of the root.
	waits := armed
	if armed == len(taken) {
		waits = 0
		keep = armed
	}
	if k.Disk().On() || k.Disk().Waits() != waits {
		t.Fatalf("armed with %d: %d wait", armed, k.Disk().Waits())
	}
	if armed < len(taken) {
		keep = min(max(keep, 0), armed)
	}
	image := slices.Clone(ahead.image)
	for _, block := range taken[:keep] {
		image[block] = behind.image[block]
	}
	k.Disk().Revive(keep)
	checkImage(t, k, image)
	again := mounted(t, k)
	checkTree(t, again, ahead)
	// The store that failed is dead, though the power is on again.
	checkErrOf(t, s, x, mtime)
	checkTree(t, s, ahead)
	if l, e := again.Publish(x.name, []byte(x.text), mtime); e != api.OK || !slices.Equal(l, taken) {
		t.Fatalf("Publish: %v, %d; not %v", l, e, taken)
	}
	checkDisk(t, k, behind)
}

// checkErrOf publishes x, while the power fails, or did.
func checkErrOf(t *testing.T, s *Store, x published, mtime int64) {
	t.Helper()
	if l, e := s.Publish(x.name, []byte(x.text), mtime); len(l) != 0 || e != api.ErrPower {
		t.Fatalf("Publish(%q): %v, %d", x.name, l, e)
	}
}

// holding lets the power fail behind all writes of a Publish: all is as behind it.
func holding(t *testing.T, ahead, behind *model, taken []int, x published, mtime int64) {
	t.Helper()
	k := laid(t, ahead)
	s := mounted(t, k)
	k.Disk().Arm(len(taken) + 1)
	if l, e := s.Publish(x.name, []byte(x.text), mtime); e != api.OK || !slices.Equal(l, taken) {
		t.Fatalf("Publish: %v, %d; not %v", l, e, taken)
	}
	checkTree(t, s, behind)
	k.Disk().Cut()
	k.Disk().Revive(0)
	checkTree(t, s, behind)
	checkDisk(t, k, behind)
}

func TestP124ElderBytesStay(t *testing.T) {
	// The blocks of a file that is replaced aren't taken by that Publish: who has its File reads its bytes till the next one.
	k, s := fresh(t, 40)
	s.Publish("a", []byte(filler('a', 700)), 1)
	elder, _ := s.Lookup("a")
	s.Publish("a", []byte(filler('b', 700)), 1)
	var got string
	for i, block := range elder.Blocks {
		got += k.Disk().Image()[block][:inode.Span(elder, i)]
	}
	if got != filler('a', 700) {
		t.Errorf("the elder bytes: %q", got)
	}
}
