package inode

import (
	"bytes"
	"encoding/binary"
	"math"
	"math/rand"
	"reflect"
	"slices"
	"strings"
	"testing"

	"pantler/api"
	"pantler/path"
	"pantler/sums"
)

// sealed is the sealed block of text by the chapter's words.
func sealed(text []byte) []byte {
	b := make([]byte, 256)
	copy(b, text)
	n := 0
	for i := 0; i < 254; i += 2 {
		n += int(binary.BigEndian.Uint16(b[i:]))
	}
	for n > 65535 {
		n = n%65536 + n/65536
	}
	binary.BigEndian.PutUint16(b[254:], uint16(65535-n))
	return b
}

// laid are numbers in their order, each as a Go number of the width that it has.
func laid(mark string, l ...any) []byte {
	b := bytes.NewBufferString(mark)
	for _, n := range l {
		if err := binary.Write(b, binary.BigEndian, n); err != nil {
			panic(err)
		}
	}
	return b.Bytes()
}

// rootText is the text of r by the chapter's words.
func rootText(r Root) []byte {
	b := laid("PROT", uint32(r.Gen), uint8(len(r.Dirs)))
	for _, d := range r.Dirs {
		b = append(b, laid("", uint16(d))...)
	}
	return b
}

// dirText is the text of a directory with the entries l by the chapter's words.
func dirText(l []Entry) []byte {
	b := laid("D", uint8(len(l)))
	for _, n := range l {
		var name [24]byte
		copy(name[:], n.Name)
		b = append(b, laid("", uint8(len(n.Name)), name, uint16(n.Inode))...)
	}
	return b
}

// fileText is the text of f by the chapter's words.
func fileText(f File) []byte {
	b := laid("F", uint32(f.Version), uint64(f.Mtime), uint16(f.Length))
	for i, n := range f.Blocks {
		b = append(b, laid("", uint16(n), uint16(real(f.Parts[i])), uint16(imag(f.Parts[i])))...)
	}
	return b
}

// upTo tells whether n is from least to most.
func upTo(n, least, most int) bool { return n >= least && n <= most }

// word is the number at b's place i, in 2 bytes.
func word(b []byte, i int) int { return int(b[i])<<8 + int(b[i+1]) }

// empty tells whether nothing but 0 stands in b from i on, up to the sum.
func empty(b []byte, i int) bool {
	return bytes.Equal(b[i:254], make([]byte, 254-i))
}

// modelRoot is the root of which b, whose sum is right, is the block.
func modelRoot(b []byte) (Root, bool) {
	gen, n := int(binary.BigEndian.Uint32(b[4:])), int(b[8])
	if string(b[:4]) != "PROT" || !upTo(gen, 1, 1<<30) || n > 4 || !empty(b, 9+2*n) {
		return Root{}, false
	}
	r := Root{Gen: gen}
	for i := range n {
		d := word(b, 9+2*i)
		if !upTo(d, 2, 511) {
			return Root{}, false
		}
		r.Dirs = append(r.Dirs, d)
	}
	return r, true
}

// modelDir are the entries of the directory of which b, whose sum is right, is the block.
func modelDir(b []byte) ([]Entry, bool) {
	n := int(b[1])
	if b[0] != 'D' || !upTo(n, 1, 8) || !empty(b, 2+27*n) {
		return nil, false
	}
	var l []Entry
	for i := range n {
		at := b[2+27*i:][:27]
		length, inode := int(at[0]), word(at, 25)
		if length > 24 || !path.Name(string(at[1:][:length])) || !upTo(inode, 2, 511) {
			return nil, false
		}
		if strings.Trim(string(at[1+length:25]), "\x00") != "" {
			return nil, false
		}
		l = append(l, Entry{Name: string(at[1:][:length]), Inode: inode})
	}
	return l, true
}

// modelFile is the file of which b, whose sum is right, is the block.
func modelFile(b []byte) (File, bool) {
	version, length := int(binary.BigEndian.Uint32(b[1:])), word(b, 13)
	mtime := binary.BigEndian.Uint64(b[5:])
	if b[0] != 'F' || !upTo(version, 1, 1<<30) || mtime > 253402300799 || length > 8192 {
		return File{}, false
	}
	n := int(math.Ceil(float64(length) / 256))
	if !empty(b, 15+6*n) {
		return File{}, false
	}
	f := File{Version: version, Mtime: int64(mtime), Length: length}
	for i := range n {
		at := b[15+6*i:]
		if !upTo(word(at, 0), 2, 511) {
			return File{}, false
		}
		f.Blocks = append(f.Blocks, word(at, 0))
		f.Parts = append(f.Parts, complex(float64(word(at, 2)), float64(word(at, 4))))
	}
	return f, true
}

// numbers are n numbers of blocks.
func numbers(n int) []int {
	var l []int
	for i := range n {
		l = append(l, 2+(509*i+7*i*i)%510)
	}
	return l
}

// fileOf is a file of length bytes.
func fileOf(length int) File {
	f := File{Version: 1 + length, Mtime: 784111777 * int64(1+length%300), Length: length, Blocks: numbers((length + 255) / 256)}
	for i := range f.Blocks {
		f.Parts = append(f.Parts, complex(float64(i*2114%65536), float64((65535-i*1013)%65536)))
	}
	return f
}

// entries are n entries.
func entries(n int) []Entry {
	var l []Entry
	for i := range n {
		l = append(l, Entry{Name: strings.Repeat("x/", i) + "a.txt", Inode: 511 - 60*i})
	}
	return l
}

func goodRoots() []Root {
	return []Root{
		{Gen: 1}, {Gen: 1, Dirs: []int{}}, {Gen: 2, Dirs: []int{2}}, {Gen: 258, Dirs: []int{3, 300}}, {Gen: 65536, Dirs: []int{511, 2, 2}},
		{Gen: 1 << 30, Dirs: []int{511, 511, 2, 256}}, {Gen: 1<<30 - 1, Dirs: numbers(4)},
	}
}

func goodDirs() [][]Entry {
	return [][]Entry{
		{{Name: "a", Inode: 2}}, {{Name: strings.Repeat("Z", 24), Inode: 511}}, {{Name: "b", Inode: 3}, {Name: "a", Inode: 3}, {Name: "a", Inode: 3}},
		{{Name: "a.txt", Inode: 5}, {Name: "b/c", Inode: 511}}, entries(7), entries(8), slices.Repeat([]Entry{{Name: strings.Repeat("ab/", 7) + "abc", Inode: 400}}, 8),
	}
}

func goodFiles() []File {
	l := []File{
		{Version: 1}, {Version: 1, Blocks: []int{}, Parts: []complex128{}}, {Version: 1 << 30, Mtime: 253402300799},
		{Version: 3, Mtime: 784111777, Length: 300, Blocks: []int{9, 10}, Parts: []complex128{32640 + 5i, 7}},
		{Version: 65536, Mtime: 1 << 32, Length: 1, Blocks: []int{2}, Parts: []complex128{65535 + 65535i}},
		{Version: 7, Length: 512, Blocks: []int{511, 511}, Parts: []complex128{0, 65535i}},
	}
	for _, n := range []int{1, 2, 255, 256, 257, 511, 512, 513, 4095, 4096, 4097, 7936, 7937, 8191, 8192} {
		l = append(l, fileOf(n))
	}
	return l
}

func checkPacked(t *testing.T, what any, got []byte, e api.Errno, text []byte) {
	t.Helper()
	if e != api.OK || len(got) != 256 || !bytes.Equal(got, sealed(text)) {
		t.Errorf("Pack of %+v: %x, %d; not %x", what, got, e, sealed(text))
	}
	if !sums.Good(got) {
		t.Errorf("Pack of %+v isn't good: %x", what, got)
	}
}

func checkArg(t *testing.T, what any, got []byte, e api.Errno) {
	t.Helper()
	if len(got) != 0 || e != api.ErrArg {
		t.Errorf("Pack of %+v: %x, %d; not ErrArg", what, got, e)
	}
}

func TestP111PackRoot(t *testing.T) {
	for _, r := range goodRoots() {
		b, e := PackRoot(r)
		checkPacked(t, r, b, e, rootText(r))
	}
	b, e := PackRoot(Root{Gen: 1})
	if want := "PROT\x00\x00\x00\x01\x00"; e != api.OK || string(b[:9]) != want || !empty(b, 9) {
		t.Errorf("the chapter's example: %x, %d", b, e)
	}
	// PR, OT and 1 have 40871 together.
	if word(b, 254) != 65535-40871 {
		t.Errorf("the sum of the chapter's example: %d", word(b, 254))
	}
}

func TestP111PackRootOfWhatMayNotBe(t *testing.T) {
	for _, gen := range []int{0, -1, 1<<30 + 1, 1 << 31, 1<<32 + 1, math.MaxInt, math.MinInt, math.MinInt + 1} {
		r := Root{Gen: gen, Dirs: []int{3}}
		b, e := PackRoot(r)
		checkArg(t, r, b, e)
	}
	for _, d := range []int{0, 1, -1, -2, 512, 513, 65536 + 5, 1<<32 + 5, math.MaxInt, math.MinInt} {
		for _, l := range [][]int{{d}, {d, 3, 4, 5}, {3, d, 4}, {3, 4, 5, d}} {
			r := Root{Gen: 1, Dirs: l}
			b, e := PackRoot(r)
			checkArg(t, r, b, e)
		}
	}
	for _, n := range []int{5, 6, 122, 123, 255, 256, 260} {
		r := Root{Gen: 1, Dirs: numbers(n)}
		b, e := PackRoot(r)
		checkArg(t, r, b, e)
	}
}

func TestP111PackDir(t *testing.T) {
	for _, l := range goodDirs() {
		b, e := PackDir(l)
		checkPacked(t, l, b, e, dirText(l))
	}
}

func TestP111PackDirOfWhatMayNotBe(t *testing.T) {
	for _, l := range [][]Entry{nil, {}, entries(8)[:0], append(entries(8), Entry{Name: "i", Inode: 2}), make([]Entry, 3)} {
		b, e := PackDir(l)
		checkArg(t, l, b, e)
	}
	for _, n := range []int{9, 10, 255, 256, 257, 264} {
		b, e := PackDir(slices.Repeat([]Entry{{Name: "a", Inode: 9}}, n))
		checkArg(t, n, b, e)
	}
	var bad []Entry
	for _, name := range []string{"", "/", "a/", "/a", "a//b", ".", "..", "a/../b", "a b", "a\x00", "\xc3\xa4", strings.Repeat("a", 25), strings.Repeat("a", 300)} {
		bad = append(bad, Entry{Name: name, Inode: 5})
	}
	for _, n := range []int{0, 1, -1, -2, 512, 513, 65536 + 5, 1<<32 + 5, math.MaxInt, math.MinInt} {
		bad = append(bad, Entry{Name: "a", Inode: n})
	}
	for _, x := range bad {
		good := Entry{Name: "b", Inode: 3}
		for _, l := range [][]Entry{{x}, {x, good, good}, {good, x, good}, {good, good, good, good, good, good, good, x}} {
			b, e := PackDir(l)
			checkArg(t, l, b, e)
		}
	}
}

func TestP111PackFile(t *testing.T) {
	for _, f := range goodFiles() {
		b, e := PackFile(f)
		checkPacked(t, f, b, e, fileText(f))
	}
	minus := math.Copysign(0, -1)
	b, e := PackFile(File{Version: 1, Length: 1, Blocks: []int{2}, Parts: []complex128{complex(minus, minus)}})
	checkPacked(t, "minus 0", b, e, fileText(File{Version: 1, Length: 1, Blocks: []int{2}, Parts: []complex128{0}}))
}

func TestP111PackFileOfWhatMayNotBe(t *testing.T) {
	check := func(change func(*File)) {
		t.Helper()
		f := fileOf(600)
		change(&f)
		b, e := PackFile(f)
		checkArg(t, f, b, e)
	}
	for _, n := range []int{0, -1, 1<<30 + 1, 1 << 31, 1<<32 + 1, math.MaxInt, math.MinInt} {
		check(func(f *File) { f.Version = n })
	}
	for _, n := range []int64{-1, 253402300800, math.MaxInt64, math.MinInt64} {
		check(func(f *File) { f.Mtime = n })
	}
	for _, n := range []int{-1, 0, 1, 256, 512, 769, 8192, 8193, 65536 + 600, 1<<32 + 600, math.MaxInt, math.MinInt} {
		check(func(f *File) { f.Length = n })
	}
	for _, n := range []int{0, 1, -1, -2, 512, 513, 65536 + 5, 1<<32 + 5, math.MaxInt, math.MinInt} {
		for i := range 3 {
			check(func(f *File) { f.Blocks[i] = n })
		}
	}
	for _, x := range []float64{-1, -0.5, 0.5, 1.25, 65534.5, 65535.5, 65536, 1 << 40, math.MaxFloat64, math.SmallestNonzeroFloat64, math.Inf(1), math.Inf(-1), math.NaN()} {
		for i := range 3 {
			check(func(f *File) { f.Parts[i] = complex(x, 4) })
			check(func(f *File) { f.Parts[i] = complex(4, x) })
		}
	}
	check(func(f *File) { f.Blocks = nil })
	check(func(f *File) { f.Parts = nil })
	check(func(f *File) { f.Blocks, f.Parts = nil, nil })
	check(func(f *File) { f.Blocks = f.Blocks[:2] })
	check(func(f *File) { f.Parts = f.Parts[:2] })
	check(func(f *File) { f.Blocks, f.Parts = f.Blocks[:2], f.Parts[:2] })
	check(func(f *File) { f.Blocks = append(f.Blocks, 5) })
	check(func(f *File) { f.Parts = append(f.Parts, 5) })
	check(func(f *File) { f.Blocks, f.Parts = append(f.Blocks, 5), append(f.Parts, 5) })
	check(func(f *File) { *f = fileOf(8193) })
	check(func(f *File) { *f = fileOf(8448) })
	check(func(f *File) { *f = File{} })
	check(func(f *File) { *f = File{Version: 1, Length: 0, Blocks: []int{2}, Parts: []complex128{0}} })
	check(func(f *File) { *f = File{Version: 1, Length: -1} })
	check(func(f *File) { *f = File{Version: 1, Length: -256} })
}

func TestP111PackLeavesWhatIsHandedIn(t *testing.T) {
	r, l, f := Root{Gen: 9, Dirs: numbers(4)}, entries(8), fileOf(700)
	one, _ := PackRoot(r)
	two, _ := PackDir(l)
	three, _ := PackFile(f)
	for _, b := range [][]byte{one, two, three} {
		for i := range b {
			b[i] = 7
		}
	}
	if !slices.Equal(r.Dirs, numbers(4)) || !slices.Equal(l, entries(8)) || !reflect.DeepEqual(f, fileOf(700)) {
		t.Errorf("changed: %v, %v, %v", r, l, f)
	}
	again, e := PackRoot(r)
	checkPacked(t, r, again, e, rootText(r))
}

// same tells whether a and b are equal, nil lists and empty ones as well.
func same(a, b any) bool {
	switch a := a.(type) {
	case Root:
		b := b.(Root)
		return a.Gen == b.Gen && slices.Equal(a.Dirs, b.Dirs)
	case []Entry:
		return slices.Equal(a, b.([]Entry))
	case File:
		b := b.(File)
		return a.Version == b.Version && a.Mtime == b.Mtime && a.Length == b.Length && slices.Equal(a.Blocks, b.Blocks) && slices.Equal(a.Parts, b.Parts)
	}
	return false
}

// checkParsed holds all three calls of b against the model.
func checkParsed(t *testing.T, b []byte) {
	t.Helper()
	kept := slices.Clone(b)
	check := func(name string, got any, e api.Errno, want any, ok bool) {
		t.Helper()
		wanted := api.OK
		if !ok {
			wanted = api.ErrForm
		}
		if e != wanted || !same(got, want) {
			t.Fatalf("%s(%x): %+v, %d; not %+v, %d", name, b, got, e, want, wanted)
		}
	}
	r, e := ParseRoot(b)
	wantRoot, ok := modelRoot(b)
	check("ParseRoot", r, e, wantRoot, ok)
	l, e := ParseDir(b)
	wantDir, ok := modelDir(b)
	check("ParseDir", l, e, wantDir, ok)
	f, e := ParseFile(b)
	wantFile, ok := modelFile(b)
	check("ParseFile", f, e, wantFile, ok)
	if !bytes.Equal(b, kept) {
		t.Fatalf("what was handed in is changed: %x; it was %x", b, kept)
	}
}

// checkNone tells whether all three calls of b tell want, and nothing beside it.
func checkNone(t *testing.T, b []byte, want api.Errno) {
	t.Helper()
	r, e1 := ParseRoot(b)
	l, e2 := ParseDir(b)
	f, e3 := ParseFile(b)
	if e1 != want || e2 != want || e3 != want || !same(r, Root{}) || len(l) != 0 || !same(f, File{}) {
		t.Fatalf("Parse of %x: %+v, %d, %+v, %d, %+v, %d; not %d", b, r, e1, l, e2, f, e3, want)
	}
}

// texts are the texts of what may be.
func texts() [][]byte {
	var all [][]byte
	for _, r := range goodRoots() {
		all = append(all, rootText(r))
	}
	for _, l := range goodDirs() {
		all = append(all, dirText(l))
	}
	for _, f := range goodFiles() {
		all = append(all, fileText(f))
	}
	return all
}

func TestP112Parse(t *testing.T) {
	for _, text := range texts() {
		checkParsed(t, sealed(text))
	}
}

func TestP112ParseOfAnotherLength(t *testing.T) {
	for _, text := range texts() {
		b := sealed(text)
		for _, n := range []int{0, 1, 9, 16, 128, 254, 255} {
			checkNone(t, b[:n], api.ErrForm)
		}
		checkNone(t, append(slices.Clone(b), 0), api.ErrForm)
		checkNone(t, append(slices.Clone(b), 1), api.ErrForm)
		checkNone(t, append(slices.Clone(b), b...), api.ErrForm)
	}
	checkNone(t, nil, api.ErrForm)
	checkNone(t, make([]byte, 1<<16), api.ErrForm)
	checkNone(t, make([]byte, 1<<24+1), api.ErrForm)
}

func TestP112ParseOfAWrongSum(t *testing.T) {
	checkNone(t, make([]byte, 256), api.ErrSum)
	checkNone(t, bytes.Repeat([]byte{1}, 256), api.ErrSum)
	// A text that can't be, with a wrong sum: the sum is looked at first.
	for _, text := range []string{"", "PROT", "D", "F", "PRO", "X"} {
		b := sealed([]byte(text))
		b[255] ^= 1
		checkNone(t, b, api.ErrSum)
	}
}

func TestP112ParseOfTextsThatAreNone(t *testing.T) {
	all := [][]byte{
		{}, []byte("PROT"), []byte("D"), []byte("F"), []byte("prot"), bytes.Repeat([]byte{255}, 254), bytes.Repeat([]byte{0, 1}, 127),
		rootText(Root{}), rootText(Root{Gen: 1<<30 + 1}), rootText(Root{Gen: 1<<32 - 1}), rootText(Root{Gen: 1, Dirs: numbers(5)}),
		rootText(Root{Gen: 1, Dirs: numbers(122)}), rootText(Root{Gen: 1, Dirs: []int{1}}), rootText(Root{Gen: 1, Dirs: []int{0}}),
		rootText(Root{Gen: 1, Dirs: []int{2, 512}}), rootText(Root{Gen: 1, Dirs: []int{2, 65535}}),
		append(rootText(Root{Gen: 1, Dirs: []int{2}}), 0, 3), dirText(nil), dirText(entries(9)), dirText(make([]Entry, 1)),
		dirText([]Entry{{Name: "a", Inode: 1}}), dirText([]Entry{{Name: "a", Inode: 512}}), dirText([]Entry{{Name: "a b", Inode: 5}}),
		dirText([]Entry{{Name: "..", Inode: 5}}), append(dirText(entries(2)), 1), laid("D", uint8(1), uint8(25), [24]byte([]byte(strings.Repeat("a", 24))), uint16(5)),
		laid("D", uint8(1), uint8(255), [24]byte([]byte(strings.Repeat("a", 24))), uint16(5)),
		laid("D", uint8(1), uint8(1), [24]byte{'a', 'b'}, uint16(5)), laid("D", uint8(1), uint8(2), [24]byte{'a'}, uint16(5)),
		fileText(File{}), fileText(File{Version: 1<<30 + 1}), fileText(File{Version: 1, Mtime: -1}), fileText(File{Version: 1, Mtime: 253402300800}),
		fileText(File{Version: 1, Mtime: math.MinInt64}), fileText(fileOf(8193)), fileText(File{Version: 1, Length: 65535}),
		fileText(File{Version: 1, Length: 8193, Blocks: numbers(32), Parts: make([]complex128, 32)}),
		fileText(File{Version: 1, Length: 257, Blocks: numbers(1), Parts: make([]complex128, 1)}),
		fileText(File{Version: 1, Length: 256, Blocks: numbers(2), Parts: make([]complex128, 2)}),
		fileText(File{Version: 1, Length: 1, Blocks: []int{1}, Parts: []complex128{1}}),
		fileText(File{Version: 1, Length: 1, Blocks: []int{512}, Parts: []complex128{1}}),
		append(fileText(fileOf(8192)), 1), append(fileText(fileOf(0)), 0, 0, 0, 0, 1),
	}
	for _, text := range all {
		b := sealed(text)
		checkNone(t, b, api.ErrForm)
		checkParsed(t, b)
	}
}

func TestP112ParseOfTheOtherSum(t *testing.T) {
	// 65535 at the sum's place is good where the text has 65535 as well, but it isn't the sum of that text, which is 0.
	found := 0
	for gen := 1; gen < 1<<16; gen++ {
		b := sealed(rootText(Root{Gen: gen, Dirs: []int{3}}))
		if word(b, 254) != 0 {
			continue
		}
		found++
		checkParsed(t, b)
		b[254], b[255] = 255, 255
		if !sums.Good(b) {
			t.Fatalf("no test: %x", b)
		}
		checkNone(t, b, api.ErrForm)
	}
	if found == 0 {
		t.Errorf("no root whose sum is 0")
	}
	b := make([]byte, 256)
	b[254], b[255] = 255, 255
	checkNone(t, b, api.ErrForm)
}

func TestP112ParseOfChangedTexts(t *testing.T) {
	for _, text := range texts() {
		b := sealed(text)
		for i := range 254 {
			for _, c := range []byte{0, 1, 2, 3, 5, 8, 9, 24, 25, 31, 32, 33, 64, 127, 255, '/', '.', 'a', 'D', 'F', b[i] + 1, b[i] - 1, b[i] ^ 128} {
				changed := slices.Clone(b[:254])
				changed[i] = c
				checkParsed(t, sealed(changed))
			}
		}
	}
}

func TestP112ParseOfTextsByChance(t *testing.T) {
	chance := rand.New(rand.NewSource(11))
	all := texts()
	for range 20000 {
		text := sealed(all[chance.Intn(len(all))])[:254]
		for range 1 + chance.Intn(4) {
			text[chance.Intn(254)>>chance.Intn(6)] = byte(chance.Intn(256) >> chance.Intn(8))
		}
		checkParsed(t, sealed(text))
	}
}

func TestP112ParseKeepsNothing(t *testing.T) {
	root, dir, file := sealed(rootText(Root{Gen: 9, Dirs: numbers(4)})), sealed(dirText(entries(8))), sealed(fileText(fileOf(700)))
	r, _ := ParseRoot(root)
	l, _ := ParseDir(dir)
	f, _ := ParseFile(file)
	r2, _ := ParseRoot(root)
	l2, _ := ParseDir(dir)
	f2, _ := ParseFile(file)
	r2.Dirs[0], l2[0].Name, f2.Blocks[0], f2.Parts[0] = 5, "z", 5, 5
	clear(root)
	clear(dir)
	clear(file)
	if !same(r, Root{Gen: 9, Dirs: numbers(4)}) || !same(l, entries(8)) || !same(f, fileOf(700)) {
		t.Errorf("changed: %v, %v, %v", r, l, f)
	}
}

func TestP112Span(t *testing.T) {
	for length := 0; length <= 8192; length++ {
		f := fileOf(length)
		whole := 0
		for i := range f.Blocks {
			n := Span(f, i)
			if i < len(f.Blocks)-1 && n != 256 || n < 1 || n > 256 {
				t.Errorf("Span of %d bytes, %d: %d", length, i, n)
			}
			whole += n
		}
		if whole != length {
			t.Errorf("the Spans of %d bytes: %d", length, whole)
		}
		for _, i := range []int{-1, -2, len(f.Blocks), len(f.Blocks) + 1, 32, math.MaxInt, math.MinInt, math.MinInt / 256, math.MaxInt/256 + 1, 1 << 56} {
			if n := Span(f, i); n != 0 {
				t.Errorf("Span of %d bytes, %d: %d", length, i, n)
			}
		}
	}
}

func TestP112SpanOfWhatMayNotBe(t *testing.T) {
	two := []int{5, 6}
	tests := []struct {
		f    File
		i    int
		want int
	}{
		{File{}, 0, 0},
		{File{Length: 300}, 0, 0},
		{File{Length: 300, Blocks: two[:1]}, 0, 256},
		{File{Length: 300, Blocks: two[:1]}, 1, 0},
		{File{Length: 10, Blocks: two}, 0, 10},
		{File{Length: 10, Blocks: two}, 1, 0},
		{File{Length: 0, Blocks: two}, 0, 0},
		{File{Length: -1, Blocks: two}, 0, 0},
		{File{Length: -300, Blocks: two}, 0, 0},
		{File{Length: -300, Blocks: two}, 1, 0},
		{File{Length: math.MinInt, Blocks: two}, 1, 0},
		{File{Length: math.MinInt + 5, Blocks: two}, 0, 0},
		{File{Length: math.MaxInt, Blocks: two}, 1, 256},
		{File{Length: math.MaxInt, Blocks: two}, -1, 0},
	}
	for _, c := range tests {
		if n := Span(c.f, c.i); n != c.want {
			t.Errorf("Span(%+v, %d): %d, not %d", c.f, c.i, n, c.want)
		}
	}
}

func TestP113PackedIsParsed(t *testing.T) {
	for _, r := range goodRoots() {
		b, _ := PackRoot(r)
		if got, e := ParseRoot(b); e != api.OK || !same(got, r) {
			t.Errorf("of %+v comes %+v, %d", r, got, e)
		}
	}
	for _, l := range goodDirs() {
		b, _ := PackDir(l)
		if got, e := ParseDir(b); e != api.OK || !same(got, l) {
			t.Errorf("of %+v comes %+v, %d", l, got, e)
		}
	}
	for n := range 8193 {
		f := fileOf(n)
		b, _ := PackFile(f)
		if got, e := ParseFile(b); e != api.OK || !same(got, f) {
			t.Errorf("of %+v comes %+v, %d", f, got, e)
		}
	}
}

func TestP113ATurnedByteIsNoBlock(t *testing.T) {
	for _, text := range [][]byte{rootText(goodRoots()[5]), dirText(entries(8)), dirText(entries(1)), fileText(fileOf(8192)), fileText(fileOf(0))} {
		b := sealed(text)
		for i := range b {
			for d := 1; d < 256; d++ {
				b[i] += byte(d)
				checkNone(t, b, api.ErrSum)
				b[i] -= byte(d)
			}
		}
	}
}
