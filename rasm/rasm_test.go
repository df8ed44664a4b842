package rasm

import (
	"bytes"
	"math"
	"math/rand"
	"slices"
	"testing"

	"pantler/api"
)

// made tells a new buffer of that room.
func made(t *testing.T, room int) *Buffer {
	t.Helper()
	x, e := New(room)
	if x == nil || e != api.OK {
		t.Fatalf("New(%d): %v, %d", room, x, e)
	}
	return x
}

// filled tells n bytes of a stream from the place at on, no few of which come again soon.
func filled(at, n int) []byte {
	b := make([]byte, n)
	for i := range b {
		place := at + i
		b[i] = byte(place*31 + place/256*7 + 1)
	}
	return b
}

// checkPut puts a text at a place, of which so many bytes are to be kept.
func checkPut(t *testing.T, x *Buffer, at int, text string, want int) {
	t.Helper()
	if n := x.Put(at, []byte(text)); n != want {
		t.Fatalf("Put(%d, %q): %d, not %d", at, text, n, want)
	}
}

// checkCounts asks for the numbers that a buffer tells.
func checkCounts(t *testing.T, x *Buffer, ready, next, held int) {
	t.Helper()
	if x.Ready() != ready || x.Next() != next || x.Held() != held {
		t.Fatalf("%d ready, next %d, %d held; not %d, %d, %d", x.Ready(), x.Next(), x.Held(), ready, next, held)
	}
}

// checkTake takes what is ready.
func checkTake(t *testing.T, x *Buffer, want string) {
	t.Helper()
	if b := x.Take(); string(b) != want {
		t.Fatalf("Take: %q, not %q", b, want)
	}
}

func TestP191New(t *testing.T) {
	for room := 1; room <= 2048; room++ {
		x := made(t, room)
		checkCounts(t, x, 0, 0, 0)
		checkTake(t, x, "")
		checkCounts(t, x, 0, 0, 0)
		// As many bytes as the room find a place, and no more.
		if n := x.Put(0, filled(0, room+1)); n != room {
			t.Fatalf("room %d: %d kept", room, n)
		}
		checkCounts(t, x, room, 0, room)
		checkPut(t, x, room, "a", 0)
		checkTake(t, x, string(filled(0, room)))
		checkCounts(t, x, 0, room, 0)
	}
}

func TestP191NewErrors(t *testing.T) {
	for _, room := range []int{
		0, -1, -2, -2048, 2049, 2050, 4096, 1 << 20, 1<<32 + 1, math.MaxInt32, math.MaxInt, math.MinInt32, math.MinInt,
	} {
		if x, e := New(room); x != nil || e != api.ErrArg {
			t.Errorf("New(%d): %v, %d", room, x, e)
		}
	}
}

func TestP191Example(t *testing.T) {
	x := made(t, 2048)
	checkPut(t, x, 1, "b", 1)
	checkPut(t, x, 0, "a", 1)
	checkCounts(t, x, 2, 0, 2)
	checkTake(t, x, "ab")
	checkCounts(t, x, 0, 2, 0)
}

func TestP191PutIntoAnEmptyOne(t *testing.T) {
	for _, c := range []struct {
		at    int
		text  string
		kept  int
		ready int
		taken string
	}{
		{0, "", 0, 0, ""}, {3, "", 0, 0, ""}, {8, "", 0, 0, ""}, {-1, "", 0, 0, ""},
		{0, "a", 1, 1, "a"}, {0, "abcdefg", 7, 7, "abcdefg"}, {0, "abcdefgh", 8, 8, "abcdefgh"},
		{0, "abcdefghi", 8, 8, "abcdefgh"}, {0, "abcdefghijklmnopqrst", 8, 8, "abcdefgh"},
		{1, "a", 1, 0, ""}, {7, "a", 1, 0, ""}, {7, "ab", 1, 0, ""}, {8, "a", 0, 0, ""}, {9, "a", 0, 0, ""}, {1, "abcdefgh", 7, 0, ""},
		{-1, "a", 0, 0, ""}, {-1, "ab", 1, 1, "b"}, {-3, "abc", 0, 0, ""}, {-3, "abcd", 1, 1, "d"}, {-8, "abcdefgh", 0, 0, ""},
		{-3, "abcdefghijklmn", 8, 8, "defghijk"}, {-16, "abcdefghijklmnopq", 1, 1, "q"}, {0, "\x00\x00\x00", 3, 3, "\x00\x00\x00"},
	} {
		x := made(t, 8)
		checkPut(t, x, c.at, c.text, c.kept)
		checkCounts(t, x, c.ready, 0, c.kept)
		checkTake(t, x, c.taken)
		checkCounts(t, x, 0, len(c.taken), c.kept-len(c.taken))
	}
}

// Of two bytes for one place the first one that came is kept, whatever the second one is.
func TestP191FirstOneStays(t *testing.T) {
	x := made(t, 8)
	checkPut(t, x, 2, "cd", 2)
	checkPut(t, x, 2, "XY", 0)
	checkPut(t, x, 1, "bXXe", 2)
	checkPut(t, x, 6, "g", 1)
	checkCounts(t, x, 0, 0, 5)
	checkPut(t, x, -2, "XXaXXXXfXhX", 3)
	checkCounts(t, x, 8, 0, 8)
	checkPut(t, x, 0, "XXXXXXXX", 0)
	checkTake(t, x, "abcdefgh")
}

// A byte of 0 is a byte, too.
func TestP191ZerosCount(t *testing.T) {
	x := made(t, 3)
	checkPut(t, x, 1, "\x00", 1)
	checkPut(t, x, 1, "b", 0)
	checkCounts(t, x, 0, 0, 1)
	checkPut(t, x, 0, "\x00", 1)
	checkCounts(t, x, 2, 0, 2)
	checkTake(t, x, "\x00\x00")
}

func TestP191WhatIsBehindAGapStays(t *testing.T) {
	x := made(t, 8)
	checkPut(t, x, 5, "fg", 2)
	checkPut(t, x, 0, "ab", 2)
	checkPut(t, x, 3, "d", 1)
	checkCounts(t, x, 2, 0, 5)
	checkTake(t, x, "ab")
	checkCounts(t, x, 0, 2, 3)
	checkTake(t, x, "")
	checkCounts(t, x, 0, 2, 3)
	checkPut(t, x, 2, "c", 1)
	checkCounts(t, x, 2, 2, 4)
	checkPut(t, x, 4, "e", 1)
	checkCounts(t, x, 5, 2, 5)
	checkTake(t, x, "cdefg")
	checkCounts(t, x, 0, 7, 0)
}

// What was taken has no place any more, and as many new places are there behind the others.
func TestP191PlacesMoveOn(t *testing.T) {
	x := made(t, 4)
	checkPut(t, x, 0, "abc", 3)
	checkPut(t, x, 4, "e", 0)
	checkTake(t, x, "abc")
	checkPut(t, x, 0, "XXX", 0)
	checkPut(t, x, 2, "X", 0)
	checkPut(t, x, 7, "h", 0)
	checkPut(t, x, 6, "gh", 1)
	checkPut(t, x, 6, "X", 0)
	checkCounts(t, x, 0, 3, 1)
	checkPut(t, x, 1, "XXdefXhi", 3)
	checkCounts(t, x, 4, 3, 4)
	checkPut(t, x, 7, "X", 0)
	checkTake(t, x, "defg")
	checkCounts(t, x, 0, 7, 0)
	checkPut(t, x, 3, "XXXXhijkX", 4)
	checkTake(t, x, "hijk")
	checkCounts(t, x, 0, 11, 0)
}

// checkPutFar puts bytes at places that no buffer has that was given few bytes.
func checkPutFar(t *testing.T, x *Buffer) {
	t.Helper()
	ready, next, held := x.Ready(), x.Next(), x.Held()
	for _, at := range []int{
		math.MaxInt, math.MaxInt - 1, math.MaxInt - 7, math.MaxInt - 8, math.MaxInt - 20, 1 << 62, 1 << 32, 1<<32 + 1, 1 << 31,
		math.MinInt, math.MinInt + 1, math.MinInt + 8, math.MinInt + 30, -1 << 62, -1 << 32, -1<<32 + 1, -1 << 31, -31, -26,
	} {
		checkPut(t, x, at, "", 0)
		checkPut(t, x, at, "abcdefghijklmnopqrstuvwxyz", 0)
		if n := x.Put(at, nil); n != 0 {
			t.Errorf("Put(%d, nil): %d", at, n)
		}
		checkCounts(t, x, ready, next, held)
	}
}

func TestP191PutAtTheEndsOfNumbers(t *testing.T) {
	x := made(t, 8)
	checkPutFar(t, x)
	checkPut(t, x, 0, "abcde", 5)
	checkPutFar(t, x)
	checkTake(t, x, "abcde")
	checkPut(t, x, 6, "gh", 2)
	checkPutFar(t, x)
	checkPut(t, x, 5, "f", 1)
	checkTake(t, x, "fgh")
}

// Of every room each place comes to stand anywhere in the rings.
func TestP191RoundAndRound(t *testing.T) {
	for _, room := range []int{1, 2, 3, 4, 5, 7, 8, 64, 900, 2047, 2048} {
		for _, step := range []int{1, 2, 3, room/2 + 1, room} {
			step = min(step, room)
			x := made(t, room)
			for at := 0; at < 3*room+50; at += step {
				// The later half comes first, and the bytes ahead of next come again.
				half := step / 2
				if n := x.Put(at+half, filled(at+half, step-half)); n != step-half {
					t.Fatalf("room %d, step %d: %d kept at %d", room, step, n, at+half)
				}
				if half > 0 {
					checkCounts(t, x, 0, at, step-half)
				}
				from := max(at-5, 0)
				if n := x.Put(from, filled(from, at-from+half)); n != half {
					t.Fatalf("room %d, step %d: %d kept at %d", room, step, n, from)
				}
				checkCounts(t, x, step, at, step)
				checkTake(t, x, string(filled(at, step)))
				checkCounts(t, x, 0, at+step, 0)
			}
		}
	}
}

// The greatest room, full but for its first byte.
func TestP191AllBehindAGap(t *testing.T) {
	x := made(t, 2048)
	checkPut(t, x, 0, "abc", 3)
	checkTake(t, x, "abc")
	if n := x.Put(4, filled(4, 3000)); n != 2047 {
		t.Fatalf("Put: %d", n)
	}
	checkCounts(t, x, 0, 3, 2047)
	checkTake(t, x, "")
	if n := x.Put(0, filled(0, 9)); n != 1 {
		t.Fatalf("Put: %d", n)
	}
	checkCounts(t, x, 2048, 3, 2048)
	checkTake(t, x, string(filled(3, 2048)))
	checkCounts(t, x, 0, 2051, 0)
}

func TestP191OfNil(t *testing.T) {
	var x *Buffer
	for _, at := range []int{0, 1, -1, 2048, math.MaxInt, math.MinInt} {
		checkPut(t, x, at, "abc", 0)
		checkPut(t, x, at, "", 0)
	}
	checkCounts(t, x, 0, 0, 0)
	if b := x.Take(); len(b) != 0 {
		t.Errorf("Take: %q", b)
	}
}

func TestR1NoCallOfAZeroBufferPanics(t *testing.T) {
	x := &Buffer{}
	for _, at := range []int{0, 1, -1, -3, 2048, math.MaxInt, math.MinInt} {
		x.Put(at, nil)
		x.Put(at, []byte("abc"))
	}
	x.Ready()
	x.Take()
	x.Next()
	x.Held()
}

func TestR4BuffersStandApart(t *testing.T) {
	x, y := made(t, 8), made(t, 8)
	checkPut(t, x, 0, "abc", 3)
	checkCounts(t, y, 0, 0, 0)
	checkPut(t, y, 1, "XY", 2)
	checkCounts(t, x, 3, 0, 3)
	checkTake(t, x, "abc")
	checkCounts(t, y, 0, 0, 2)
}

func TestR4WhoHoldsOneSeesWhatIsDone(t *testing.T) {
	x := made(t, 8)
	y := x
	checkPut(t, x, 0, "abc", 3)
	checkTake(t, y, "abc")
	checkCounts(t, x, 0, 3, 0)
}

func TestR4WhatIsPutIsNeitherKeptNorChanged(t *testing.T) {
	x := made(t, 8)
	given := []byte("abcdefXYZ")
	if n := x.Put(0, given[:6]); n != 6 || string(given) != "abcdefXYZ" {
		t.Fatalf("Put: %d, %q", n, given)
	}
	clear(given)
	checkTake(t, x, "abcdef")
	if !slices.Equal(given, make([]byte, 9)) {
		t.Errorf("Take changed what was put: %q", given)
	}
}

func TestR4WhatIsTakenIsTheCallers(t *testing.T) {
	x := made(t, 8)
	checkPut(t, x, 0, "abcd", 4)
	first := x.Take()
	checkPut(t, x, 4, "efghijkl", 8)
	if string(first) != "abcd" {
		t.Errorf("Put changed what was taken: %q", first)
	}
	first = append(first, "ZZZZZZZZ"...)
	clear(first)
	second := x.Take()
	if string(second) != "efghijkl" {
		t.Errorf("Take: %q", second)
	}
	clear(second[:cap(second)])
	checkPut(t, x, 12, "mn", 2)
	if !slices.Equal(second, make([]byte, 8)) {
		t.Errorf("Put changed what was taken: %q", second)
	}
	checkTake(t, x, "mn")
}

// model is a buffer by the chapter's words.
type model struct {
	room, next int
	bytes      map[int]byte // by their places
}

func (m *model) put(at int, b []byte) int {
	kept := 0
	for i, c := range b {
		place := at + i
		if _, is := m.bytes[place]; is || place < m.next || place >= m.next+m.room {
			continue
		}
		m.bytes[place] = c
		kept++
	}
	return kept
}

func (m *model) ready() []byte {
	var b []byte
	for place := m.next; ; place++ {
		c, is := m.bytes[place]
		if !is {
			return b
		}
		b = append(b, c)
	}
}

func (m *model) take() []byte {
	b := m.ready()
	for range b {
		delete(m.bytes, m.next)
		m.next++
	}
	return b
}

// pair is a buffer and its model.
type pair struct {
	*testing.T
	x *Buffer
	m *model
}

func pairOf(t *testing.T, room int) pair {
	t.Helper()
	return pair{t, made(t, room), &model{room: room, bytes: map[int]byte{}}}
}

func (p pair) put(at int, b []byte) {
	p.Helper()
	if n, want := p.x.Put(at, b), p.m.put(at, b); n != want {
		p.Fatalf("room %d: Put(%d, %d bytes): %d, not %d", p.m.room, at, len(b), n, want)
	}
	p.compare()
}

func (p pair) take() {
	p.Helper()
	if b, want := p.x.Take(), p.m.take(); !bytes.Equal(b, want) {
		p.Fatalf("room %d: Take: %q, not %q", p.m.room, b, want)
	}
	p.compare()
}

func (p pair) compare() {
	p.Helper()
	checkCounts(p.T, p.x, len(p.m.ready()), p.m.next, len(p.m.bytes))
}

// All that four calls do to a small buffer: takes, and texts of 1 to 3 bytes at the places from -1 to 4.
func TestP191AllOfAFewCalls(t *testing.T) {
	const places = 6
	const calls = 3*places + 1
	for room := 1; room <= 3; room++ {
		for script := range calls * calls * calls * calls {
			p := pairOf(t, room)
			for i := range 4 {
				call := script % calls
				script /= calls
				if call == 0 {
					p.take()
					continue
				}
				// The bytes of each call are its own, so that it is seen whose are kept.
				text := []byte{byte('a' + 4*i), byte('b' + 4*i), byte('c' + 4*i)}
				p.put((call-1)%places-1, text[:1+(call-1)/places])
			}
			p.take()
		}
	}
}

func TestP191AgainstTheModel(t *testing.T) {
	for seed := range int64(300) {
		rnd := rand.New(rand.NewSource(seed))
		room := 1 + rnd.Intn(1<<(1+rnd.Intn(11)))
		p := pairOf(t, min(room, 2048))
		for range 200 {
			if rnd.Intn(5) == 0 {
				p.take()
				continue
			}
			b := make([]byte, rnd.Intn(room+3)/(1+rnd.Intn(4)))
			rnd.Read(b)
			p.put(p.m.next+rnd.Intn(2*room+6)-room/2-3, b)
		}
		for len(p.m.ready()) > 0 {
			p.take()
		}
	}
}

// follow lets parts of a stream come till all of it was taken, and looks whether that is a beginning of it at all times.
func follow(t *testing.T, rnd *rand.Rand, room, length int) {
	t.Helper()
	stream := make([]byte, length)
	rnd.Read(stream)
	x := made(t, room)
	var taken []byte
	for len(taken) < length {
		for range rnd.Intn(6) {
			at := min(max(len(taken)+rnd.Intn(2*room+8)-room/2-4, 0), length-1)
			part := stream[at:min(length, at+rnd.Intn(room+room/2+2))]
			for range 1 + rnd.Intn(2) {
				x.Put(at, part)
			}
		}
		// What comes at the next place always goes on, so that it ends.
		if rnd.Intn(3) == 0 {
			x.Put(x.Next(), stream[x.Next():x.Next()+1])
		}
		if rnd.Intn(3) == 0 {
			taken = append(taken, x.Take()...)
			if !bytes.HasPrefix(stream, taken) || len(taken) != x.Next() || x.Ready() != 0 {
				t.Fatalf("room %d: %d taken, next %d, that is no beginning", room, len(taken), x.Next())
			}
		}
	}
	if x.Held() != 0 || len(x.Take()) != 0 {
		t.Fatalf("room %d: %d held behind the end", room, x.Held())
	}
}

func TestP192BeginningOfTheStream(t *testing.T) {
	rnd := rand.New(rand.NewSource(19))
	for _, room := range []int{1, 2, 3, 4, 5, 8, 13, 64, 100, 256, 900, 2047, 2048} {
		for range 12 {
			follow(t, rnd, room, 1+rnd.Intn(6*room+20))
		}
	}
}

// parted tells where the parts of a stream of that length begin, none of them longer than most, and where the last one ends.
func parted(rnd *rand.Rand, length, most int) []int {
	ends := []int{0}
	for last := 0; last < length; {
		last = min(length, last+1+rnd.Intn(most))
		ends = append(ends, last)
	}
	return ends
}

// Parts that all find room come in any order, once or twice, and all of the stream is there.
func TestP192AllOrders(t *testing.T) {
	rnd := rand.New(rand.NewSource(192))
	for range 3000 {
		length := 1 + rnd.Intn(40)
		stream := filled(rnd.Intn(1000), length)
		ends := parted(rnd, length, 1+rnd.Intn(12))
		x := made(t, length)
		order := append(rnd.Perm(len(ends)-1), rnd.Perm(len(ends) - 1)[:rnd.Intn(len(ends))]...)
		rnd.Shuffle(len(order), func(i, j int) { order[i], order[j] = order[j], order[i] })
		kept := 0
		for _, i := range order {
			kept += x.Put(ends[i], stream[ends[i]:ends[i+1]])
			if x.Held() != kept {
				t.Fatalf("%d held, %d kept", x.Held(), kept)
			}
		}
		checkCounts(t, x, length, 0, length)
		checkTake(t, x, string(stream))
	}
}
