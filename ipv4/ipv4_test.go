package ipv4

import (
	"bytes"
	"encoding/binary"
	"math"
	"math/rand"
	"testing"

	"pantler/api"
)

// modelSum is the sum of a head, by the everyday rule: all words, added with what goes over, and turned round.
func modelSum(b []byte) uint16 {
	n := 0
	for i := 0; i < len(b); i += 2 {
		n += int(b[i])<<8 + int(b[i+1])
		if n > 65535 {
			n -= 65535
		}
	}
	return ^uint16(n)
}

// seal puts into a head of len(b) bytes the sum that fits it.
func seal(b []byte) []byte {
	b[10], b[11] = 0, 0
	binary.BigEndian.PutUint16(b[10:], modelSum(b))
	return b
}

// modelHead is the head of p with a body of length bytes, by the chapter's words.
func modelHead(p Packet, length int) []byte {
	b := []byte{69, 0}
	b = binary.BigEndian.AppendUint16(b, uint16(20+length))
	b = binary.BigEndian.AppendUint16(b, p.ID)
	b = append(b, 64, 0, p.TTL, p.Proto, 0, 0)
	b = binary.BigEndian.AppendUint32(b, p.Src)
	return seal(binary.BigEndian.AppendUint32(b, p.Dst))
}

// modelGood tells whether words with their sum in it add up to all ones.
func modelGood(b []byte) bool {
	n := 0
	for i := 0; i < len(b); i += 2 {
		n += int(b[i])<<8 + int(b[i+1])
	}
	for n > 65535 {
		n = n>>16 + n&65535
	}
	return n == 65535
}

// modelParse is the packet of b, by the chapter's words.
func modelParse(b []byte) (Packet, api.Errno) {
	if len(b) < 20 || b[0] < 69 || b[0] > 79 {
		return Packet{}, api.ErrForm
	}
	head := (int(b[0]) - 64) * 4
	if len(b) < head {
		return Packet{}, api.ErrForm
	}
	if !modelGood(b[:head]) {
		return Packet{}, api.ErrSum
	}
	length := int(b[2])*256 + int(b[3])
	if length < head || length > len(b) || b[6] != 0 && b[6] != 64 || b[7] != 0 {
		return Packet{}, api.ErrForm
	}
	return Packet{
		ID: binary.BigEndian.Uint16(b[4:]), TTL: b[8], Proto: b[9],
		Src: binary.BigEndian.Uint32(b[12:]), Dst: binary.BigEndian.Uint32(b[16:]), Body: b[head:length],
	}, api.OK
}

func same(p, q Packet) bool {
	return p.ID == q.ID && p.TTL == q.TTL && p.Proto == q.Proto && p.Src == q.Src && p.Dst == q.Dst && bytes.Equal(p.Body, q.Body)
}

// filled are n bytes that differ from their neighbours.
func filled(n int) []byte {
	b := make([]byte, n)
	for i := range b {
		b[i] = byte(i*7 + 1)
	}
	return b
}

// headOf is a good head of 4*words bytes, of a packet of length bytes with these 16 bits at 6.
func headOf(words, length int, flags uint16) []byte {
	b := filled(words * 4)
	b[0] = byte(64 + words)
	binary.BigEndian.PutUint16(b[2:], uint16(length))
	binary.BigEndian.PutUint16(b[6:], flags)
	return seal(b)
}

// checkParse holds Parse against the model, and the error against what the test says it is.
func checkParse(t *testing.T, b []byte, want api.Errno) {
	t.Helper()
	p, e := modelParse(b)
	if e != want {
		t.Fatalf("the model of %x: %d, not %d", b, e, want)
	}
	if q, told := Parse(b); !same(p, q) || told != e || e != api.OK && q.Body != nil {
		t.Errorf("Parse(%x): %+v, %d; not %+v, %d", b, q, told, p, e)
	}
}

var (
	ids    = []uint16{0, 1, 255, 256, 0x1234, 1 << 15, math.MaxUint16}
	eights = []uint8{0, 1, 6, 17, 64, 128, 255}
	ips    = []uint32{0, 1, 0x0a000001, 0x01020304, 0xc0a800c7, 1 << 31, math.MaxUint32}
)

// packets are ordinary ones, and those whose numbers are at their ends.
func packets() []Packet {
	var l []Packet
	for i, id := range ids {
		for j, n := range eights {
			for k, ip := range ips {
				l = append(l, Packet{
					ID: id, TTL: n, Proto: eights[(i+k)%len(eights)], Src: ip, Dst: ips[(i+j+k)%len(ips)],
				})
			}
		}
	}
	return l
}

func TestP151Head(t *testing.T) {
	for _, p := range packets() {
		for _, n := range []int{0, 1, 2, 95, 235, 236, 491, 989, 990} {
			if b, e := Head(p, n); !bytes.Equal(b, modelHead(p, n)) || e != api.OK {
				t.Fatalf("Head(%+v, %d): %x, %d; not %x", p, n, b, e, modelHead(p, n))
			}
		}
	}
	for n := range 991 {
		p := Packet{ID: uint16(n), TTL: 64, Proto: 6, Src: 0x0a000001, Dst: 0x0a000002}
		if b, e := Head(p, n); !bytes.Equal(b, modelHead(p, n)) || e != api.OK {
			t.Fatalf("Head(%+v, %d): %x, %d", p, n, b, e)
		}
	}
}

func TestP151HeadTooLong(t *testing.T) {
	for _, n := range []int{991, 992, 1010, 1024, 65515, 65516, 65536, 65536 + 10, 1 << 32, 1<<32 + 10, math.MaxInt, -1, -20, -21, -65536, math.MinInt, math.MinInt + 1} {
		for _, p := range []Packet{{}, {ID: 1, TTL: 2, Proto: 3, Src: 4, Dst: 5, Body: filled(10)}} {
			if b, e := Head(p, n); len(b) != 0 || e != api.ErrLong {
				t.Errorf("Head(%+v, %d): %x, %d", p, n, b, e)
			}
		}
	}
}

func TestP151HeadOfBodyThatCountsForNothing(t *testing.T) {
	for _, n := range []int{0, 1, 20, 990, 991, 1 << 17} {
		p := Packet{ID: 7, TTL: 64, Proto: 1, Src: 9, Dst: 8, Body: filled(n)}
		for _, length := range []int{0, 5, 990} {
			if b, e := Head(p, length); !bytes.Equal(b, modelHead(p, length)) || e != api.OK {
				t.Errorf("Head with a body of %d: %x, %d", n, b, e)
			}
		}
	}
}

func TestP151Bytes(t *testing.T) {
	for _, p := range packets() {
		for _, n := range []int{0, 1, 2, 95, 989, 990} {
			p.Body = filled(n)
			want := append(modelHead(p, n), p.Body...)
			if b, e := Bytes(p); !bytes.Equal(b, want) || e != api.OK {
				t.Fatalf("Bytes(%+v): %x, %d; not %x", p, b, e, want)
			}
		}
	}
	for _, n := range []int{991, 992, 1004, 1024, 65516, 65536, 65536 + 10, 1 << 20} {
		if b, e := Bytes(Packet{TTL: 1, Body: filled(n)}); len(b) != 0 || e != api.ErrLong {
			t.Errorf("Bytes of a body of %d: %d bytes, %d", n, len(b), e)
		}
	}
}

func TestP152ParseShort(t *testing.T) {
	b := append(headOf(5, 30, 0), filled(10)...)
	for n := range 20 {
		checkParse(t, b[:n], api.ErrForm)
	}
	checkParse(t, nil, api.ErrForm)
	for n := 20; n < 30; n++ {
		checkParse(t, b[:n], api.ErrForm)
	}
	checkParse(t, b, api.OK)
}

// A head's length is told by its first byte: from 20 to 60 bytes, all of which its sum is of.
func TestP152ParseFirstByte(t *testing.T) {
	for first := range 256 {
		words := max(first&15, 3)
		b := headOf(words, words*4+8, 0x4000)
		b[0] = byte(first)
		b = append(seal(b), filled(40)...)
		want := api.OK
		if first < 69 || first > 79 {
			want = api.ErrForm
		}
		checkParse(t, b, want)
	}
	for words := 5; words <= 15; words++ {
		b := headOf(words, words*4, 0)
		checkParse(t, b, api.OK)
		for n := 20; n < len(b); n++ {
			checkParse(t, b[:n], api.ErrForm)
		}
		for i := 1; i < len(b); i++ {
			c := bytes.Clone(b)
			c[i] ^= 1
			checkParse(t, c, api.ErrSum)
		}
	}
}

func TestP152ParseLengthTold(t *testing.T) {
	for words := 5; words <= 15; words++ {
		for _, behind := range []int{0, 1, 7, 100} {
			for _, length := range []int{0, 1, 19, 20, words*4 - 1, words * 4, words*4 + 1, words*4 + behind - 1, words*4 + behind, words*4 + behind + 1, 255, 256, 65535} {
				b := append(headOf(words, length, 0), filled(behind)...)
				want := api.OK
				if length < words*4 || length > len(b) {
					want = api.ErrForm
				}
				checkParse(t, b, want)
			}
		}
	}
}

// Bodies above 990 bytes are built by nobody here, but may be told by others.
func TestP152ParseLongBodies(t *testing.T) {
	for _, n := range []int{990, 991, 1004, 1005, 4000, 65515} {
		b := append(headOf(5, 20+n, 0), filled(n)...)
		checkParse(t, b, api.OK)
		checkParse(t, append(b, 1, 2, 3), api.OK)
		checkParse(t, b[:len(b)-1], api.ErrForm)
	}
	checkParse(t, append(headOf(5, 24, 0), make([]byte, 1<<20)...), api.OK)
}

func TestP152ParseFragments(t *testing.T) {
	for flags := range 65536 {
		want := api.ErrForm
		if flags == 0 || flags == 16384 {
			want = api.OK
		}
		checkParse(t, append(headOf(5, 24, uint16(flags)), filled(4)...), want)
	}
}

// The errors come in the chapter's order: a sum that doesn't fit is told ahead of a length or a fragment, a head that is cut off ahead of its sum.
func TestP152ParseOrder(t *testing.T) {
	for _, b := range [][]byte{headOf(5, 19, 0), headOf(5, 21, 0), headOf(5, 20, 1), headOf(5, 0, 0xffff)} {
		checkParse(t, b, api.ErrForm)
		b[19] ^= 1
		checkParse(t, b, api.ErrSum)
		b[0] = 68
		checkParse(t, b, api.ErrForm)
	}
	b := headOf(6, 24, 0)
	b[19] ^= 1
	checkParse(t, b, api.ErrSum)
	checkParse(t, b[:23], api.ErrForm)
}

func TestP152ParseNewMemory(t *testing.T) {
	b := append(headOf(5, 24, 0), filled(8)...)
	was := bytes.Clone(b)
	p, _ := Parse(b)
	p.Body = append(p.Body, 77)
	clear(p.Body)
	if !bytes.Equal(b, was) {
		t.Errorf("a parsed body is in the packet's bytes: %x", b)
	}
	p, _ = Parse(b)
	clear(b)
	if !bytes.Equal(p.Body, was[20:24]) {
		t.Errorf("a parsed body is in the packet's bytes: %x", p.Body)
	}
}

func TestP151NewMemory(t *testing.T) {
	room := make([]byte, 64)
	p := Packet{Body: room[30:33]}
	b, _ := Bytes(p)
	for i := range b {
		b[i] = 9
	}
	one, _ := Head(p, 3)
	two, _ := Head(p, 3)
	clear(one)
	if !bytes.Equal(room, make([]byte, 64)) || !bytes.Equal(two, modelHead(p, 3)) {
		t.Errorf("memory is shared: %x, %x", room, two)
	}
}

// modelPseudo is the part of the twelve bytes, by the chapter's words.
func modelPseudo(src, dst uint32, proto uint8, length int) complex128 {
	b := binary.BigEndian.AppendUint32(binary.BigEndian.AppendUint32(nil, src), dst)
	b = binary.BigEndian.AppendUint16(append(b, 0, proto), uint16((length%65536+65536)%65536))
	even, odd := 0, 0
	for i := 0; i < len(b); i += 2 {
		even, odd = even+int(b[i]), odd+int(b[i+1])
	}
	return complex(float64(even), float64(odd))
}

func TestP153Pseudo(t *testing.T) {
	lengths := []int{0, 1, 20, 255, 256, 258, 920, 65535, 65536, 65537, 65536 + 258, 1 << 32, 1<<32 + 3, math.MaxInt, math.MaxInt - 1, -1, -2, -256, -65535, -65536, -65537, math.MinInt, math.MinInt + 1}
	for _, src := range ips {
		for _, dst := range ips {
			for _, proto := range eights {
				for _, n := range lengths {
					if z := Pseudo(src, dst, proto, n); z != modelPseudo(src, dst, proto, n) {
						t.Fatalf("Pseudo(%x, %x, %d, %d): %v, not %v", src, dst, proto, n, z, modelPseudo(src, dst, proto, n))
					}
				}
			}
		}
	}
	if z := Pseudo(0, 0, 0, 0); z != 0 {
		t.Errorf("Pseudo of zeros: %v", z)
	}
	if z := Pseudo(math.MaxUint32, math.MaxUint32, 255, 65535); z != 5*255+6*255i {
		t.Errorf("Pseudo of ones: %v", z)
	}
}

// randomPacket tells packets whose numbers are often at their ends.
func randomPacket(r *rand.Rand) Packet {
	p := Packet{ID: uint16(r.Uint32()), TTL: uint8(r.Uint32()), Proto: uint8(r.Uint32()), Src: r.Uint32(), Dst: r.Uint32()}
	if r.Intn(3) == 0 {
		p.ID, p.Src, p.Dst = ids[r.Intn(len(ids))], ips[r.Intn(len(ips))], ips[r.Intn(len(ips))]
	}
	p.Body = make([]byte, r.Intn(991))
	r.Read(p.Body)
	return p
}

func TestP154WhatIsBuiltIsParsed(t *testing.T) {
	r := rand.New(rand.NewSource(15))
	for range 20000 {
		p := randomPacket(r)
		b, e := Bytes(p)
		if e != api.OK {
			t.Fatalf("Bytes(%+v): %d", p, e)
		}
		for _, more := range []int{0, 1, r.Intn(100)} {
			if q, e := Parse(append(bytes.Clone(b), filled(more)...)); !same(p, q) || e != api.OK {
				t.Fatalf("Parse(Bytes(%+v)) with %d behind: %+v, %d", p, more, q, e)
			}
		}
		if head, e := Head(p, len(p.Body)); !bytes.Equal(head, b[:20]) || e != api.OK {
			t.Fatalf("Head(%+v): %x, %d", p, head, e)
		}
	}
}

// One byte of a head is given each other value.
func TestP154TurnedBytes(t *testing.T) {
	r := rand.New(rand.NewSource(16))
	for range 100 {
		b, _ := Bytes(randomPacket(r))
		for i := 1; i < 20; i++ {
			for c := 1; c < 256; c++ {
				b[i] ^= byte(c)
				checkParse(t, b, api.ErrSum)
				b[i] ^= byte(c)
			}
		}
	}
}

// The first byte may be turned to one that tells a longer head, so that what is there hangs on the body.
func TestP152Random(t *testing.T) {
	r := rand.New(rand.NewSource(17))
	for range 100000 {
		b := append(headOf(5+r.Intn(11), r.Intn(120), uint16(r.Intn(5)/4)<<r.Intn(16)), filled(r.Intn(60))...)
		switch r.Intn(4) {
		case 0:
			b[r.Intn(len(b))] ^= 1 << r.Intn(8)
		case 1:
			b = b[:r.Intn(len(b)+1)]
		}
		_, e := modelParse(b)
		checkParse(t, b, e)
	}
}

func TestExamples(t *testing.T) {
	if b, e := Head(Packet{}, 0); e != api.OK || b[2] != 0 || b[3] != 20 {
		t.Errorf("Head: %x, %d", b, e)
	}
	p := Packet{TTL: 64, Proto: 17, Src: 0xc0a80001, Dst: 0xc0a800c7}
	if b, e := Head(p, 95); e != api.OK || b[10] != 0xb8 || b[11] != 0x61 {
		t.Errorf("Head: %x, %d", b, e)
	}
}
