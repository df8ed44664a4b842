package store

import (
	"maps"
	"math/rand"
	"slices"
	"strings"
	"testing"

	"pantler/api"
	"pantler/inode"
	"pantler/kern"
	"pantler/path"
)

// modelFile is a file of the model.
type modelFile struct {
	version int
	mtime   int64
	text    string
	inode   int
	blocks  []int
}

// model is a store by the chapter's words: files by name, and the disk as it ought to be.
type model struct {
	own   int // how many blocks are environment 1's: those from 0 on
	gen   int
	files map[string]modelFile
	dirs  []int
	image []string
}

// modelOf tells the model of a disk of so many blocks of zeros that was formatted.
func modelOf(blocks int) *model {
	m := &model{own: blocks - blocks/4, gen: 1, files: map[string]modelFile{}, image: slices.Repeat([]string{zeros}, blocks)}
	m.image[1] = packed(inode.PackRoot(inode.Root{Gen: 1}))
	return m
}

// zeros are the bytes of a block to which nothing was written.
var zeros = strings.Repeat("\x00", 256)

// packed is a sealed block, which may be.
func packed(b []byte, e api.Errno) string {
	if e != api.OK {
		panic("a test's block may not be")
	}
	return string(b)
}

// names are those of all files, in order.
func (m *model) names() []string { return slices.Sorted(maps.Keys(m.files)) }

// copy is a model of its own.
func (m *model) copy() *model {
	c := *m
	c.files, c.image = maps.Clone(m.files), slices.Clone(m.image)
	return &c
}

// freeBlocks are the free ones, the least first.
func (m *model) freeBlocks() []int {
	taken := append([]int{0, 1}, m.dirs...)
	for _, f := range m.files {
		taken = append(append(taken, f.inode), f.blocks...)
	}
	var l []int
	for block := range m.own {
		if !slices.Contains(taken, block) {
			l = append(l, block)
		}
	}
	return l
}

// cut is text in pieces of 256 bytes, the last one with what is left.
func cut(text string) []string {
	var l []string
	for ; len(text) > 256; text = text[256:] {
		l = append(l, text[:256])
	}
	if text != "" {
		l = append(l, text)
	}
	return l
}

// publish is Publish on a disk whose power doesn't fail.
func (m *model) publish(name, text string, mtime int64) ([]int, api.Errno) {
	switch {
	case !path.Name(name):
		return nil, api.ErrPath
	case len(text) > 8192:
		return nil, api.ErrLong
	case mtime < 0 || mtime > 253402300799:
		return nil, api.ErrArg
	}
	elder, there := m.files[name]
	count := len(m.files)
	if !there {
		count++
	}
	data := len(cut(text))
	free := m.freeBlocks()
	need := data + 1 + (count+7)/8
	if count > 24 || len(free) < need || m.gen == 1<<30 || elder.version == 1<<30 {
		return nil, api.ErrFull
	}
	taken := free[:need]
	m.files[name] = modelFile{elder.version + 1, mtime, text, taken[data], taken[:data]}
	m.dirs = taken[data+1:]
	m.gen++
	m.write(name)
	return taken, api.OK
}

// write lets the disk have the bytes of the file of that name, the file, all directories, and the root.
func (m *model) write(name string) {
	f := m.files[name]
	for i, piece := range cut(f.text) {
		m.image[f.blocks[i]] = (piece + zeros)[:256]
	}
	m.image[f.inode] = packed(inode.PackFile(m.file(name)))
	names := m.names()
	for i, dir := range m.dirs {
		var l []inode.Entry
		for _, n := range names[8*i : min(8*i+8, len(names))] {
			l = append(l, inode.Entry{Name: n, Inode: m.files[n].inode})
		}
		m.image[dir] = packed(inode.PackDir(l))
	}
	m.image[m.gen%2] = packed(inode.PackRoot(inode.Root{Gen: m.gen, Dirs: m.dirs}))
}

// file is what Lookup tells of a file that is there.
func (m *model) file(name string) inode.File {
	f := m.files[name]
	file := inode.File{Version: f.version, Mtime: f.mtime, Length: len(f.text), Blocks: f.blocks}
	for _, piece := range cut(f.text) {
		file.Parts = append(file.Parts, partOf(piece))
	}
	return file
}

// partOf is the part of the bytes of text.
func partOf(text string) complex128 {
	even, odd := 0, 0
	for i := range len(text) {
		if i%2 == 0 {
			even += int(text[i])
		} else {
			odd += int(text[i])
		}
	}
	return complex(float64(even), float64(odd))
}

// sameFile tells whether a and b are the same file.
func sameFile(a, b inode.File) bool {
	return a.Version == b.Version && a.Mtime == b.Mtime && a.Length == b.Length && slices.Equal(a.Blocks, b.Blocks) && slices.Equal(a.Parts, b.Parts)
}

// checkTree holds what a store tells against the model.
func checkTree(t *testing.T, s *Store, m *model) {
	t.Helper()
	if s.Gen() != m.gen {
		t.Fatalf("Gen: %d, not %d", s.Gen(), m.gen)
	}
	if got := s.Names(); !slices.Equal(got, m.names()) {
		t.Fatalf("Names: %q, not %q", got, m.names())
	}
	for _, name := range m.names() {
		if f, e := s.Lookup(name); e != api.OK || !sameFile(f, m.file(name)) {
			t.Fatalf("Lookup(%q): %+v, %d; not %+v", name, f, e, m.file(name))
		}
		if b, e := s.Bytes(name); e != api.OK || string(b) != m.files[name].text {
			t.Fatalf("Bytes(%q): %q, %d; not %q", name, b, e, m.files[name].text)
		}
	}
}

// checkDisk holds the disk against the model's, and the tree that is mounted from it.
func checkDisk(t *testing.T, k *kern.Kernel, m *model) {
	t.Helper()
	checkImage(t, k, m.image)
	checkTree(t, mounted(t, k), m)
}

// checkImage holds the disk, on which nothing waits, against image.
func checkImage(t *testing.T, k *kern.Kernel, image []string) {
	t.Helper()
	if k.Disk().Waits() != 0 {
		t.Fatalf("%d writes wait", k.Disk().Waits())
	}
	for block, got := range k.Disk().Image() {
		if got != image[block] {
			t.Fatalf("block %d: %q, not %q", block, got, image[block])
		}
	}
}

// checkPublish publishes, and holds what comes of it against the model.
func checkPublish(t *testing.T, s *Store, m *model, name, text string, mtime int64) api.Errno {
	t.Helper()
	want, wantErr := m.publish(name, text, mtime)
	got, e := s.Publish(name, []byte(text), mtime)
	if !slices.Equal(got, want) || e != wantErr {
		t.Fatalf("Publish(%q, %d bytes, %d): %v, %d; not %v, %d", name, len(text), mtime, got, e, want, wantErr)
	}
	return e
}

// someNames are names, and texts that are none.
func someNames() []string {
	l := []string{"B", "Z/z", "_", "a", "a-b", "a.txt", "a/b", "a0", "ab", "index.html", strings.Repeat("n", 24), "", "/", "..", "a b", "a//b", strings.Repeat("n", 25)}
	for c := 'c'; c <= 'w'; c++ {
		l = append(l, string(c)+".css")
	}
	return l
}

// someText tells a text by chance, mostly a short one.
func someText(d *rand.Rand) string {
	n := []int{d.Intn(3), d.Intn(256), 256, 255 + d.Intn(3), d.Intn(1024), 512, d.Intn(8500), 8191 + d.Intn(3)}[d.Intn(8)]
	b := make([]byte, n)
	for i := range b {
		b[i] = byte(d.Intn(256))
	}
	return string(b)
}

// someTime tells a second by chance, and sometimes none.
func someTime(d *rand.Rand) int64 {
	return []int64{0, 253402300799, int64(d.Intn(1 << 30)), 784111777, -1, 253402300800}[max(d.Intn(40)-34, 0)]
}

func TestP123ByChance(t *testing.T) {
	d := rand.New(rand.NewSource(12))
	names := someNames()
	counts := map[api.Errno]int{}
	for _, blocks := range []int{4, 5, 8, 12, 20, 40, 52, 80, 130, 200, 333, 512} {
		k, s := fresh(t, blocks)
		m := modelOf(blocks)
		for range 100 {
			counts[checkPublish(t, s, m, names[d.Intn(len(names))], someText(d), someTime(d))]++
			checkTree(t, s, m)
			checkDisk(t, k, m)
		}
	}
	for _, e := range []api.Errno{api.OK, api.ErrPath, api.ErrLong, api.ErrArg, api.ErrFull} {
		if counts[e] < 10 {
			t.Errorf("%d times only came %d", counts[e], e)
		}
	}
}

func TestP124ByChance(t *testing.T) {
	d := rand.New(rand.NewSource(124))
	names := someNames()
	failed := 0
	for _, blocks := range []int{8, 16, 40, 80, 200, 512} {
		k, s := fresh(t, blocks)
		m := modelOf(blocks)
		for range 200 {
			name, text := names[d.Intn(len(names))], someText(d)
			behind := m.copy()
			want, wantErr := behind.publish(name, text, 1)
			armed := d.Intn(20)
			k.Disk().Arm(armed)
			got, e := s.Publish(name, []byte(text), 1)
			if wantErr == api.OK && armed <= len(want) {
				want, wantErr = nil, api.ErrPower
				behind = m
				failed++
			}
			if !slices.Equal(got, want) || e != wantErr || k.Disk().On() != (e != api.ErrPower) {
				t.Fatalf("Publish(%q, %d bytes), armed with %d: %v, %d; not %v, %d", name, len(text), armed, got, e, want, wantErr)
			}
			m = behind
			k.Disk().Cut()
			k.Disk().Revive(d.Intn(12) - 1)
			if e == api.ErrPower || d.Intn(2) == 0 {
				s = mounted(t, k)
			}
			checkTree(t, s, m)
			checkTree(t, mounted(t, k), m)
		}
	}
	if failed < 100 {
		t.Errorf("the power failed %d times only", failed)
	}
}
