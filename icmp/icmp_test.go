package icmp

import (
	"bytes"
	"encoding/binary"
	"math"
	"math/rand"
	"testing"

	"pantler/api"
)

// modelFold adds the words of b, by the everyday rule: what goes over 16 bits is added below.
func modelFold(b []byte) uint16 {
	n := 0
	for i, c := range b {
		if i%2 == 0 {
			n += int(c) << 8
		} else {
			n += int(c)
		}
	}
	for n > 65535 {
		n = n>>16 + n&65535
	}
	return uint16(n)
}

// seal16 puts into b the sum that fits it.
func seal16(b []byte) []byte {
	b[2], b[3] = 0, 0
	binary.BigEndian.PutUint16(b[2:], ^modelFold(b))
	return b
}

// modelBytes are the bytes of e, by the chapter's words.
func modelBytes(e Echo) []byte {
	b := []byte{byte(e.Type), 0, 0, 0}
	b = binary.BigEndian.AppendUint16(b, e.ID)
	b = binary.BigEndian.AppendUint16(b, e.Seq)
	return seal16(append(b, e.Data...))
}

// modelParse is the echo of b, by the chapter's words.
func modelParse(b []byte) (Echo, api.Errno) {
	if len(b) < 8 || len(b) > 990 {
		return Echo{}, api.ErrForm
	}
	if modelFold(b) != 65535 {
		return Echo{}, api.ErrSum
	}
	if b[0] != 0 && b[0] != 8 || b[1] != 0 {
		return Echo{}, api.ErrForm
	}
	return Echo{Type: int(b[0]), ID: binary.BigEndian.Uint16(b[4:]), Seq: binary.BigEndian.Uint16(b[6:]), Data: b[8:]}, api.OK
}

func same(d, e Echo) bool {
	return d.Type == e.Type && d.ID == e.ID && d.Seq == e.Seq && bytes.Equal(d.Data, e.Data)
}

// filled are n bytes that differ from their neighbours.
func filled(n int) []byte {
	b := make([]byte, n)
	for i := range b {
		b[i] = byte(i*7 + 1)
	}
	return b
}

// checkParse holds Parse and Answer against the model, and the error against what the test says it is.
func checkParse(t *testing.T, b []byte, want api.Errno) {
	t.Helper()
	m, e := modelParse(b)
	if e != want {
		t.Fatalf("the model of %x: %d, not %d", b, e, want)
	}
	was := bytes.Clone(b)
	if p, told := Parse(b); !same(p, m) || told != e || e != api.OK && p.Data != nil {
		t.Fatalf("Parse(%x): %+v, %d; not %+v, %d", b, p, told, m, e)
	}
	var answer []byte
	asks := e == api.OK && m.Type == 8
	if asks {
		answer = modelBytes(Echo{ID: m.ID, Seq: m.Seq, Data: m.Data})
	}
	if a, is := Answer(b); !bytes.Equal(a, answer) || is != asks {
		t.Fatalf("Answer(%x): %x, %v; not %x, %v", b, a, is, answer, asks)
	}
	if !bytes.Equal(b, was) {
		t.Fatalf("what was handed in was changed: %x to %x", was, b)
	}
}

var words = []uint16{0, 1, 2, 255, 256, 0x1234, 0xf7ff, 1 << 15, math.MaxUint16 - 1, math.MaxUint16}

func TestP161Bytes(t *testing.T) {
	for _, kind := range []int{0, 8} {
		for _, id := range words {
			for _, seq := range words {
				for _, n := range []int{0, 1, 2, 3, 56, 255, 256, 981, 982} {
					e := Echo{Type: kind, ID: id, Seq: seq, Data: filled(n)}
					if b, err := Bytes(e); !bytes.Equal(b, modelBytes(e)) || err != api.OK {
						t.Fatalf("Bytes(%+v): %x, %d; not %x", e, b, err, modelBytes(e))
					}
				}
			}
		}
		for n := range 983 {
			e := Echo{Type: kind, ID: 5, Seq: uint16(n), Data: bytes.Repeat([]byte{255}, n)}
			if b, err := Bytes(e); !bytes.Equal(b, modelBytes(e)) || err != api.OK || len(b) != 8+n {
				t.Fatalf("Bytes(%+v): %x, %d; not %x", e, b, err, modelBytes(e))
			}
		}
	}
}

// An echo of zeros has a sum of ones, and one whose words come to ones a sum of zeros.
func TestP161BytesOfBothZeros(t *testing.T) {
	for _, n := range []int{0, 1, 2, 981, 982} {
		want := make([]byte, 8+n)
		want[2], want[3] = 255, 255
		if b, e := Bytes(Echo{Data: make([]byte, n)}); !bytes.Equal(b, want) || e != api.OK {
			t.Errorf("Bytes of %d zeros: %x, %d", n, b, e)
		}
		want[2], want[3], want[4], want[5] = 0, 0, 255, 255
		if b, e := Bytes(Echo{ID: 65535, Data: make([]byte, n)}); !bytes.Equal(b, want) || e != api.OK {
			t.Errorf("Bytes of ones and %d zeros: %x, %d", n, b, e)
		}
		want[0], want[4] = 8, 0xf7
		if b, e := Bytes(Echo{Type: 8, ID: 0xf7ff, Data: make([]byte, n)}); !bytes.Equal(b, want) || e != api.OK {
			t.Errorf("Bytes that come to ones, with %d zeros: %x, %d", n, b, e)
		}
	}
}

// Data that are too long count only where the Type may be.
func TestP161BytesErrors(t *testing.T) {
	kinds := []int{-1, -8, 1, 2, 3, 4, 5, 6, 7, 9, 10, 13, 255, 256, 264, 65536, 1<<32 + 8, 1 << 32, math.MaxInt, math.MinInt, math.MinInt + 8}
	for _, n := range []int{0, 1, 982, 983, 1 << 17} {
		for _, kind := range kinds {
			if b, e := Bytes(Echo{Type: kind, ID: 1, Seq: 2, Data: filled(n)}); len(b) != 0 || e != api.ErrArg {
				t.Errorf("Bytes of Type %d with %d bytes: %x, %d", kind, n, b, e)
			}
		}
	}
	for _, kind := range []int{0, 8} {
		for _, n := range []int{983, 984, 990, 991, 1024, 65536, 65536 + 8, 1<<24 + 1} {
			if b, e := Bytes(Echo{Type: kind, Data: make([]byte, n)}); len(b) != 0 || e != api.ErrLong {
				t.Errorf("Bytes of %d bytes: %d, %d", n, len(b), e)
			}
		}
	}
}

// Echoes that are cut or go on have other sums, so that each is sealed: it is their length alone that counts.
func TestP161ParseLengths(t *testing.T) {
	checkParse(t, nil, api.ErrForm)
	checkParse(t, []byte{}, api.ErrForm)
	for _, kind := range []byte{0, 8} {
		whole := filled(1100)
		whole[0], whole[1] = kind, 0
		for n := range len(whole) {
			want := api.OK
			if n < 8 || n > 990 {
				want = api.ErrForm
			}
			b := bytes.Clone(whole[:n])
			if n >= 4 {
				seal16(b)
			}
			checkParse(t, b, want)
		}
	}
	for _, n := range []int{1014, 65536, 65536 + 8, 1 << 20, 1<<24 + 8} {
		b := make([]byte, n)
		b[0] = 8
		checkParse(t, seal16(b), api.ErrForm)
	}
}

func TestP161ParseSums(t *testing.T) {
	for _, n := range []int{0, 1, 2, 5, 8, 57, 981, 982} {
		b := modelBytes(Echo{Type: 8, ID: 0x1234, Seq: 7, Data: filled(n)})
		checkParse(t, b, api.OK)
		for i := range b {
			for bit := range 8 {
				b[i] ^= 1 << bit
				checkParse(t, b, api.ErrSum)
				b[i] ^= 1 << bit
			}
		}
	}
	b := modelBytes(Echo{Type: 8, ID: 3, Seq: 4, Data: filled(3)})
	good := binary.BigEndian.Uint16(b[2:])
	for n := range 65536 {
		binary.BigEndian.PutUint16(b[2:], uint16(n))
		want := api.ErrSum
		if uint16(n) == good {
			want = api.OK
		}
		checkParse(t, b, want)
	}
	checkParse(t, make([]byte, 8), api.ErrSum)
	checkParse(t, make([]byte, 990), api.ErrSum)
}

// Where a sum of zeros fits one of ones does, too: such bytes are good, and the answer has the sum that is reckoned of it.
func TestP161ParseOtherZero(t *testing.T) {
	for _, e := range []Echo{{ID: 65535}, {Type: 8, ID: 0xf7ff}, {Type: 8, ID: 0xf7fe, Seq: 1, Data: make([]byte, 3)}} {
		b := modelBytes(e)
		if b[2] != 0 || b[3] != 0 {
			t.Fatalf("the sum of %+v isn't 0: %x", e, b)
		}
		checkParse(t, b, api.OK)
		b[2], b[3] = 255, 255
		checkParse(t, b, api.OK)
	}
}

func TestP161ParseFirstBytes(t *testing.T) {
	for kind := range 256 {
		for code := range 256 {
			b := seal16(append([]byte{byte(kind), byte(code), 0, 0, 1, 2, 3, 4}, filled(code%5)...))
			want := api.ErrForm
			if code == 0 && (kind == 0 || kind == 8) {
				want = api.OK
			}
			checkParse(t, b, want)
			b[3] ^= 1
			checkParse(t, b, api.ErrSum)
		}
	}
}

// Lengths are looked at ahead of sums, and sums ahead of the first two bytes.
func TestP161ParseOrder(t *testing.T) {
	b := seal16([]byte{3, 1, 0, 0, 0, 1, 0, 2})
	checkParse(t, b, api.ErrForm)
	b[7]++
	checkParse(t, b, api.ErrSum)
	checkParse(t, b[:7], api.ErrForm)
	checkParse(t, append(b, make([]byte, 983)...), api.ErrForm)
	checkParse(t, append(b, make([]byte, 982)...), api.ErrSum)
}

func TestP162Answer(t *testing.T) {
	for _, id := range words {
		for _, seq := range words {
			for _, n := range []int{0, 1, 2, 3, 56, 981, 982} {
				asker := Echo{Type: 8, ID: id, Seq: seq, Data: filled(n)}
				want := modelBytes(Echo{ID: id, Seq: seq, Data: filled(n)})
				if a, is := Answer(modelBytes(asker)); !bytes.Equal(a, want) || !is {
					t.Fatalf("Answer to %+v: %x, %v; not %x", asker, a, is, want)
				}
			}
		}
	}
}

// The answer's words come to ones here: a sum led on from the asker's would be one of ones, too.
func TestP162AnswerSumIsReckonedAnew(t *testing.T) {
	for _, e := range []Echo{{Type: 8, ID: 65535}, {Type: 8, Seq: 65535, Data: []byte{0}}, {Type: 8, ID: 0xff00, Data: []byte{0, 255}}} {
		a, is := Answer(modelBytes(e))
		if !is || a[0] != 0 || a[2] != 0 || a[3] != 0 {
			t.Errorf("Answer to %+v: %x, %v", e, a, is)
		}
	}
	if a, is := Answer([]byte{8, 0, 0xf7, 0xff, 0, 0, 0, 0}); !is || !bytes.Equal(a, []byte{0, 0, 255, 255, 0, 0, 0, 0}) {
		t.Errorf("Answer to an echo of zeros: %x, %v", a, is)
	}
}

func TestP162WhatIsNotAnswered(t *testing.T) {
	asker := modelBytes(Echo{Type: 8, ID: 1, Seq: 2, Data: []byte("abc")})
	spoilt := bytes.Clone(asker)
	spoilt[9]++
	coded := bytes.Clone(asker)
	coded[1] = 1
	long := make([]byte, 991)
	long[0] = 8
	for _, b := range [][]byte{
		nil, {}, {8}, asker[:7], asker[:8], asker[:10], append(bytes.Clone(asker), 1), spoilt, seal16(coded), seal16(long),
		modelBytes(Echo{ID: 1, Seq: 2, Data: []byte("abc")}), modelBytes(Echo{}),
		seal16([]byte{3, 0, 0, 0, 0, 1, 0, 2}), seal16([]byte{9, 0, 0, 0, 0, 1, 0, 2}), make([]byte, 8), make([]byte, 1<<24+1),
	} {
		if a, is := Answer(b); len(a) != 0 || is {
			t.Errorf("Answer to %d bytes: %x, %v", len(b), a, is)
		}
	}
}

func TestP161NewMemory(t *testing.T) {
	room := make([]byte, 64)
	e := Echo{Type: 8, Data: room[30:33]}
	b, _ := Bytes(e)
	for i := range b {
		b[i] = 9
	}
	if !bytes.Equal(room, make([]byte, 64)) {
		t.Errorf("an echo's bytes are in its data: %x", room)
	}
	b = append(modelBytes(Echo{Type: 8, Data: filled(4)}), filled(8)...)
	was := bytes.Clone(b)
	p, _ := Parse(b[:12])
	p.Data = append(p.Data, 77)
	clear(p.Data)
	a, _ := Answer(b[:12])
	a = append(a, 77)
	clear(a)
	if !bytes.Equal(b, was) {
		t.Errorf("what was told is in the packet's bytes: %x", b)
	}
	p, _ = Parse(b[:12])
	a, _ = Answer(b[:12])
	clear(b)
	if !bytes.Equal(p.Data, was[8:12]) || !bytes.Equal(a[8:], was[8:12]) {
		t.Errorf("what was told is in the packet's bytes: %x, %x", p.Data, a)
	}
}

// randomEcho tells echoes whose numbers are often at their ends.
func randomEcho(r *rand.Rand) Echo {
	e := Echo{Type: r.Intn(2) * 8, ID: uint16(r.Uint32()), Seq: uint16(r.Uint32())}
	if r.Intn(3) == 0 {
		e.ID, e.Seq = words[r.Intn(len(words))], words[r.Intn(len(words))]
	}
	e.Data = make([]byte, r.Intn(983))
	r.Read(e.Data)
	return e
}

func TestP163WhatIsBuiltIsParsed(t *testing.T) {
	r := rand.New(rand.NewSource(16))
	for range 20000 {
		e := randomEcho(r)
		b, err := Bytes(e)
		if err != api.OK {
			t.Fatalf("Bytes(%+v): %d", e, err)
		}
		if p, err := Parse(b); !same(p, e) || err != api.OK {
			t.Fatalf("Parse(Bytes(%+v)): %+v, %d", e, p, err)
		}
	}
}

func TestP163AnAnswerIsNotAnswered(t *testing.T) {
	r := rand.New(rand.NewSource(17))
	for range 20000 {
		e := randomEcho(r)
		b, _ := Bytes(e)
		a, is := Answer(b)
		if is != (e.Type == 8) {
			t.Fatalf("Answer to %+v: %v", e, is)
		}
		if !is {
			continue
		}
		p, err := Parse(a)
		e.Type = 0
		if !same(p, e) || err != api.OK {
			t.Fatalf("Parse of the answer: %+v, %d; not %+v", p, err, e)
		}
		if again, is := Answer(a); len(again) != 0 || is {
			t.Fatalf("the answer %x was answered: %x", a, again)
		}
	}
}

func TestP161Random(t *testing.T) {
	r := rand.New(rand.NewSource(18))
	for range 100000 {
		e := randomEcho(r)
		e.Data = e.Data[:min(len(e.Data), r.Intn(40))]
		b := modelBytes(e)
		switch r.Intn(5) {
		case 0:
			b[r.Intn(len(b))] ^= 1 << r.Intn(8)
		case 1:
			b = b[:r.Intn(len(b)+1)]
		case 2:
			b[r.Intn(2)] ^= 1 << r.Intn(8)
			seal16(b)
		}
		_, err := modelParse(b)
		checkParse(t, b, err)
	}
}

func TestExamples(t *testing.T) {
	b, e := Bytes(Echo{Type: 8, ID: 1, Seq: 2})
	if !bytes.Equal(b, []byte{8, 0, 247, 252, 0, 1, 0, 2}) || e != api.OK {
		t.Errorf("Bytes: %v, %d", b, e)
	}
}
