package seg

import (
	"bytes"
	"encoding/binary"
	"math"
	"math/rand"
	"testing"

	"pantler/api"
	"pantler/sums"
)

// fold adds what goes over 16 bits below, by the everyday rule.
func fold(n int) uint16 {
	for n > 65535 {
		n = n>>16 + n&65535
	}
	return uint16(n)
}

// added tells the sum of the words of b, which isn't folded.
func added(b []byte) int {
	n := 0
	for i, c := range b {
		if i%2 == 0 {
			n += int(c) << 8
		} else {
			n += int(c)
		}
	}
	return n
}

// pseudo are the bytes that the sum of so many begins with.
func pseudo(src, dst uint32, length int) []byte {
	b := binary.BigEndian.AppendUint32(binary.BigEndian.AppendUint32(nil, src), dst)
	return binary.BigEndian.AppendUint16(append(b, 0, 6), uint16(length))
}

// seal puts into b, which has at least 18 bytes, the sum that fits it.
func seal(b []byte, src, dst uint32) []byte {
	b[16], b[17] = 0, 0
	binary.BigEndian.PutUint16(b[16:], ^fold(added(pseudo(src, dst, len(b)))+added(b)))
	return b
}

// modelHead is the head of s, by the chapter's words, with n bytes of data whose words come to data.
func modelHead(s Seg, src, dst uint32, data, n int) []byte {
	b := binary.BigEndian.AppendUint16(nil, s.From)
	b = binary.BigEndian.AppendUint16(b, s.To)
	b = binary.BigEndian.AppendUint32(b, s.Seq)
	b = binary.BigEndian.AppendUint32(b, s.Ack)
	b = append(b, 80, byte(s.Flags))
	b = append(binary.BigEndian.AppendUint16(b, s.Window), 0, 0, 0, 0)
	if s.MSS != 0 {
		b[12] = 96
		b = binary.BigEndian.AppendUint16(append(b, 2, 4), uint16(s.MSS))
	}
	binary.BigEndian.PutUint16(b[16:], ^fold(added(pseudo(src, dst, len(b)+n))+added(b)+data))
	return b
}

// modelBytes are the bytes of s, by the chapter's words.
func modelBytes(s Seg, src, dst uint32) []byte {
	return append(modelHead(s, src, dst, added(s.Data), len(s.Data)), s.Data...)
}

// modelMSS is what the options tell, by the chapter's words.
func modelMSS(b []byte) (int, api.Errno) {
	if len(b) == 0 || b[0] == 0 {
		return 0, api.OK
	}
	n := 1
	if b[0] != 1 {
		if len(b) < 2 || b[1] < 2 || int(b[1]) > len(b) {
			return 0, api.ErrForm
		}
		n = int(b[1])
	}
	later, e := modelMSS(b[n:])
	if e != api.OK {
		return 0, e
	}
	if b[0] == 2 && n == 4 && (b[2] != 0 || b[3] != 0) {
		return int(b[2])*256 + int(b[3]), api.OK
	}
	return later, api.OK
}

// modelParse is the segment of b, by the chapter's words.
func modelParse(b []byte, src, dst uint32) (Seg, api.Errno) {
	if len(b) < 20 || len(b) > 990 {
		return Seg{}, api.ErrForm
	}
	if fold(added(pseudo(src, dst, len(b)))+added(b)) != 65535 {
		return Seg{}, api.ErrSum
	}
	size := int(b[12]) / 16 * 4
	if size < 20 || size > len(b) {
		return Seg{}, api.ErrForm
	}
	mss, e := modelMSS(b[20:size])
	if e != api.OK {
		return Seg{}, e
	}
	return Seg{
		From: binary.BigEndian.Uint16(b), To: binary.BigEndian.Uint16(b[2:]),
		Seq: binary.BigEndian.Uint32(b[4:]), Ack: binary.BigEndian.Uint32(b[8:]),
		Flags: int(b[13]) % 64, Window: binary.BigEndian.Uint16(b[14:]), MSS: mss, Data: b[size:],
	}, api.OK
}

func same(s, x Seg) bool {
	return s.From == x.From && s.To == x.To && s.Seq == x.Seq && s.Ack == x.Ack &&
		s.Flags == x.Flags && s.Window == x.Window && s.MSS == x.MSS && bytes.Equal(s.Data, x.Data)
}

// filled are n bytes that differ from their neighbours.
func filled(n int) []byte {
	b := make([]byte, n)
	for i := range b {
		b[i] = byte(i*7 + 1)
	}
	return b
}

const (
	src = 0xc0a80101
	dst = 0xc0a80102
)

// checkParse holds Parse against the model, and the error against what the test says it is.
func checkParse(t *testing.T, b []byte, from, to uint32, want api.Errno) {
	t.Helper()
	m, e := modelParse(b, from, to)
	if e != want {
		t.Fatalf("the model of %x: %d, not %d", b, e, want)
	}
	was := bytes.Clone(b)
	if s, told := Parse(b, from, to); !same(s, m) || told != e || e != api.OK && s.Data != nil {
		t.Fatalf("Parse(%x, %x, %x): %+v, %d; not %+v, %d", b, from, to, s, told, m, e)
	}
	if !bytes.Equal(b, was) {
		t.Fatalf("what was handed in was changed: %x to %x", was, b)
	}
}

// checkBuilt holds Bytes, Head of the part, and Parse of what was built against the model.
func checkBuilt(t *testing.T, s Seg, from, to uint32) {
	t.Helper()
	want := modelBytes(s, from, to)
	b, e := Bytes(s, from, to)
	if !bytes.Equal(b, want) || e != api.OK {
		t.Fatalf("Bytes(%+v, %x, %x): %x, %d; not %x", s, from, to, b, e, want)
	}
	part, _ := sums.Part(s.Data)
	other := s
	other.Data = []byte("other data")
	size := len(b) - len(s.Data)
	if head, e := Head(other, from, to, part, len(s.Data)); !bytes.Equal(head, want[:size]) || e != api.OK {
		t.Fatalf("Head(%+v, %x, %x): %x, %d; not %x", s, from, to, head, e, want[:size])
	}
	if x, e := Parse(b, from, to); !same(s, x) || e != api.OK {
		t.Fatalf("Parse of %+v, %x, %x: %+v, %d", s, from, to, x, e)
	}
}

var (
	ips      = []uint32{0, 1, 0x0a000001, 0xc0a80101, 1 << 31, math.MaxUint32}
	sixteens = []uint16{0, 1, 80, 255, 256, 0x1234, 1 << 15, math.MaxUint16 - 1, math.MaxUint16}
	numbers  = []uint32{0, 1, 255, 65535, 65536, 0x01020304, 1 << 31, math.MaxUint32 - 1, math.MaxUint32}
	mssOnes  = []int{0, 1, 255, 256, 536, 900, 0x0402, 65534, 65535}
	badFlags = []int{-1, -2, -64, 64, 65, 127, 128, 255, 256, 1 << 16, 1 << 32, 1<<32 + 2, math.MaxInt, math.MinInt, math.MinInt + 2}
	badMSS   = []int{-1, -536, -65535, -65536, 65536, 65537, 1 << 17, 1 << 32, 1<<32 + 536, math.MaxInt, math.MinInt, math.MinInt + 536}
	badN     = []int{-1, -2, -900, math.MinInt, 901, 902, 970, 990, 65536, 1 << 32, math.MaxInt}
)

func badParts() []complex128 {
	l := []complex128{}
	for _, x := range []float64{-1, 0.5, -0.5, 1<<40 + 1, 1 << 41, 1e300, -1 << 40, 1<<40 - 0.5, math.SmallestNonzeroFloat64, math.NaN(), math.Inf(1), math.Inf(-1)} {
		l = append(l, complex(x, 0), complex(0, x), complex(x, 3), complex(3, x), complex(x, x))
	}
	return l
}

func TestP171Bytes(t *testing.T) {
	for _, from := range sixteens {
		for _, window := range sixteens {
			for _, seq := range numbers {
				for _, mss := range mssOnes {
					for _, n := range []int{0, 1, 2, 33, 899, 900} {
						to, ack := from^0x55aa, seq*3+7
						checkBuilt(t, Seg{from, to, seq, ack, int(window) % 64, window, mss, filled(n)}, src, dst)
					}
				}
			}
		}
	}
}

// Each part of a head is told alone, so that none stands in another's place.
func TestP171Places(t *testing.T) {
	for i, s := range []Seg{
		{From: 0x0102}, {To: 0x0102}, {Seq: 0x01020304}, {Ack: 0x01020304}, {Flags: 42}, {Window: 0x0102}, {MSS: 0x0102},
	} {
		want := make([]byte, 20, 24)
		want[12] = 80
		at := []int{0, 2, 4, 8, 13, 14, 22}[i]
		if i == 6 {
			want[12], want = 96, append(want, 2, 4, 0, 0)
		}
		value := [][]byte{{1, 2}, {1, 2}, {1, 2, 3, 4}, {1, 2, 3, 4}, {42}, {1, 2}, {1, 2}}[i]
		copy(want[at:], value)
		seal(want, src, dst)
		if b, e := Bytes(s, src, dst); !bytes.Equal(b, want) || e != api.OK {
			t.Errorf("Bytes(%+v): %x, %d; not %x", s, b, e, want)
		}
		checkBuilt(t, s, src, dst)
	}
}

func TestP171Flags(t *testing.T) {
	for flags := range 64 {
		for _, mss := range mssOnes {
			checkBuilt(t, Seg{From: 1, To: 2, Flags: flags, MSS: mss, Data: []byte("abc")}, src, dst)
		}
	}
}

func TestP171Addresses(t *testing.T) {
	for _, from := range ips {
		for _, to := range ips {
			for n := range 20 {
				checkBuilt(t, Seg{From: 80, To: 4097, Seq: 9, Flags: 16, Window: 512, Data: filled(n * 47)}, from, to)
			}
		}
	}
}

func TestP171Lengths(t *testing.T) {
	for n := range 901 {
		checkBuilt(t, Seg{From: 80, Data: filled(n)}, src, dst)
		checkBuilt(t, Seg{From: 80, MSS: 65535, Data: bytes.Repeat([]byte{255}, n)}, math.MaxUint32, math.MaxUint32)
	}
}

// Segments whose words come to ones have a sum of zeros.
func TestP171SumOfZero(t *testing.T) {
	for window := range 65536 {
		s := Seg{From: 80, To: 81, Window: uint16(window), Data: []byte{7}}
		if b, e := Bytes(s, src, dst); e != api.OK || !bytes.Equal(b, modelBytes(s, src, dst)) {
			t.Fatalf("Bytes(%+v): %x, %d", s, b, e)
		}
	}
	s := Seg{Window: ^fold(added(pseudo(src, dst, 20)) + 80<<8)}
	if b, e := Bytes(s, src, dst); e != api.OK || b[16] != 0 || b[17] != 0 {
		t.Errorf("Bytes(%+v): %x, %d", s, b, e)
	}
}

func TestP171BytesErrors(t *testing.T) {
	for _, n := range []int{0, 1, 900, 901, 1 << 17, 1<<24 + 1} {
		data := make([]byte, n)
		for _, flags := range badFlags {
			if b, e := Bytes(Seg{Flags: flags, Data: data}, src, dst); len(b) != 0 || e != api.ErrArg {
				t.Errorf("Bytes of Flags %d, %d bytes: %x, %d", flags, n, b, e)
			}
		}
		for _, mss := range badMSS {
			if b, e := Bytes(Seg{Flags: 2, MSS: mss, Data: data}, src, dst); len(b) != 0 || e != api.ErrArg {
				t.Errorf("Bytes of MSS %d, %d bytes: %x, %d", mss, n, b, e)
			}
		}
		if b, e := Bytes(Seg{Flags: 63, MSS: 65535, Data: data}, src, dst); n > 900 && (len(b) != 0 || e != api.ErrLong) {
			t.Errorf("Bytes of %d bytes: %d, %d", n, len(b), e)
		}
	}
	for _, n := range []int{901, 902, 966, 970, 990, 65536, 65636, 1 << 24} {
		if b, e := Bytes(Seg{Data: make([]byte, n)}, src, dst); len(b) != 0 || e != api.ErrLong {
			t.Errorf("Bytes of %d bytes: %d, %d", n, len(b), e)
		}
	}
}

// The errors come in the chapter's order: Flags and MSS, then n, then the part.
func TestP171HeadErrors(t *testing.T) {
	parts := append(badParts(), 0, 5+7i, 1<<40+1i)
	for _, part := range parts {
		for _, n := range append([]int{0, 1, 900}, badN...) {
			for _, flags := range badFlags {
				if b, e := Head(Seg{Flags: flags}, src, dst, part, n); len(b) != 0 || e != api.ErrArg {
					t.Fatalf("Head of Flags %d, %v, %d: %x, %d", flags, part, n, b, e)
				}
			}
			for _, mss := range badMSS {
				if b, e := Head(Seg{MSS: mss}, src, dst, part, n); len(b) != 0 || e != api.ErrArg {
					t.Fatalf("Head of MSS %d, %v, %d: %x, %d", mss, part, n, b, e)
				}
			}
		}
		for _, n := range badN {
			if b, e := Head(Seg{Flags: 63, MSS: 65535}, src, dst, part, n); len(b) != 0 || e != api.ErrLong {
				t.Errorf("Head of %v, %d: %x, %d", part, n, b, e)
			}
		}
	}
	for _, part := range badParts() {
		for _, n := range []int{0, 1, 2, 900} {
			if b, e := Head(Seg{Flags: 2, MSS: 536}, src, dst, part, n); len(b) != 0 || e != api.ErrArg {
				t.Errorf("Head of %v, %d: %x, %d", part, n, b, e)
			}
		}
	}
}

// A part that may be is taken, though no n bytes have it, up to the end from which none can be joined to it.
func TestP171HeadOfGreatParts(t *testing.T) {
	halves := []int{0, 1, 255, 256, 65535, 65536, 1 << 32, 1<<40 - 65536, 1<<40 - 1, 1 << 40}
	for _, even := range halves {
		for _, odd := range halves {
			for _, n := range []int{0, 1, 2, 900} {
				for _, mss := range mssOnes {
					s := Seg{From: 80, To: 8080, Seq: 77, Flags: 24, MSS: mss}
					want := modelHead(s, src, dst, even*256+odd, n)
					part := complex(float64(even), float64(odd))
					if b, e := Head(s, src, dst, part, n); !bytes.Equal(b, want) || e != api.OK {
						t.Fatalf("Head(%+v, %v, %d): %x, %d; not %x", s, part, n, b, e, want)
					}
				}
			}
		}
	}
	zero := complex(math.Copysign(0, -1), math.Copysign(0, -1))
	if b, e := Head(Seg{}, src, dst, zero, 0); !bytes.Equal(b, modelHead(Seg{}, src, dst, 0, 0)) || e != api.OK {
		t.Errorf("Head of 0: %x, %d", b, e)
	}
}

// Data of the segment itself count for nothing in its head, however many they are.
func TestP171HeadIgnoresData(t *testing.T) {
	want, _ := Head(Seg{From: 1, MSS: 9}, src, dst, 3+4i, 2)
	for _, n := range []int{1, 2, 900, 901, 1 << 24, 1<<24 + 1} {
		if b, e := Head(Seg{From: 1, MSS: 9, Data: make([]byte, n)}, src, dst, 3+4i, 2); !bytes.Equal(b, want) || e != api.OK {
			t.Errorf("Head with %d bytes: %x, %d; not %x", n, b, e, want)
		}
	}
}

func TestP171Room(t *testing.T) {
	for flags := range 64 {
		for _, n := range []int{0, 1, 2, 900, 901, 970, 1 << 20} {
			want := n + flags%2 + flags/2%2
			if r := Room(Seg{Seq: 9, Flags: flags, MSS: 7, Window: 3, Data: make([]byte, n)}); r != want {
				t.Errorf("Room of Flags %d, %d bytes: %d, not %d", flags, n, r, want)
			}
		}
	}
}

// headOf is a head of that many words of four bytes with the options behind it, whatever they are, and the data.
func headOf(words int, options, data []byte) []byte {
	b := []byte{0, 80, 0x12, 0x34, 1, 2, 3, 4, 5, 6, 7, 8, byte(words << 4), 24, 8, 0, 0, 0, 0, 0}
	return seal(append(append(b, options...), data...), src, dst)
}

// Only lengths count here, as each is sealed.
func TestP172ParseLengths(t *testing.T) {
	checkParse(t, nil, src, dst, api.ErrForm)
	checkParse(t, []byte{}, 0, 0, api.ErrForm)
	whole := headOf(5, nil, filled(1100))
	for n := range len(whole) {
		want := api.OK
		if n < 20 || n > 990 {
			want = api.ErrForm
		}
		b := bytes.Clone(whole[:n])
		if n >= 18 {
			seal(b, src, dst)
		}
		checkParse(t, b, src, dst, want)
	}
	for _, n := range []int{65536, 65536 + 20, 1 << 20, 1<<24 + 20} {
		b := make([]byte, n)
		b[12] = 80
		checkParse(t, seal(b, src, dst), src, dst, api.ErrForm)
	}
}

func TestP172ParseSums(t *testing.T) {
	for _, n := range []int{0, 1, 2, 57, 899, 900} {
		b := modelBytes(Seg{From: 80, To: 1025, Seq: 5, Flags: 16, MSS: n, Data: filled(n)}, src, dst)
		checkParse(t, b, src, dst, api.OK)
		for i := range b {
			for bit := range 8 {
				b[i] ^= 1 << bit
				checkParse(t, b, src, dst, api.ErrSum)
				b[i] ^= 1 << bit
			}
		}
		for bit := range 32 {
			checkParse(t, b, src^1<<bit, dst, api.ErrSum)
			checkParse(t, b, src, dst^1<<bit, api.ErrSum)
		}
		checkParse(t, b, dst, src, api.OK)
	}
	b := headOf(5, nil, filled(7))
	good := binary.BigEndian.Uint16(b[16:])
	for n := range 65536 {
		binary.BigEndian.PutUint16(b[16:], uint16(n))
		want := api.ErrSum
		if uint16(n) == good {
			want = api.OK
		}
		checkParse(t, b, src, dst, want)
	}
}

// The length and the protocol are summed, too: bytes of 0 at the end change the sum, as does another protocol's pseudo head.
func TestP172ParseSumsLengthAndProto(t *testing.T) {
	b := headOf(5, nil, filled(6))
	checkParse(t, append(bytes.Clone(b), 0), src, dst, api.ErrSum)
	checkParse(t, append(bytes.Clone(b), 0, 0), src, dst, api.ErrSum)
	udp := binary.BigEndian.Uint16(b[16:])
	binary.BigEndian.PutUint16(b[16:], udp-11)
	checkParse(t, b, src, dst, api.ErrSum)
}

// Where a sum of zeros fits one of ones does, too.
func TestP172ParseOtherZero(t *testing.T) {
	s := Seg{Window: ^fold(added(pseudo(src, dst, 20)) + 80<<8)}
	b := modelBytes(s, src, dst)
	if b[16] != 0 || b[17] != 0 {
		t.Fatalf("the sum of %+v isn't 0: %x", s, b)
	}
	checkParse(t, b, src, dst, api.OK)
	b[16], b[17] = 255, 255
	checkParse(t, b, src, dst, api.OK)
}

// The options are pads, so that the head's length alone counts.
func TestP172ParseHeadLength(t *testing.T) {
	for length := range 256 {
		for n := range 64 {
			b := headOf(0, bytes.Repeat([]byte{1}, n), nil)
			b[12] = byte(length)
			seal(b, src, dst)
			size := length / 16 * 4
			want := api.OK
			if size < 20 || size > len(b) {
				want = api.ErrForm
			}
			checkParse(t, b, src, dst, want)
		}
	}
}

// The two high bits beside the flags, the low bits beside the length, and the two bytes behind the sum count for nothing.
func TestP172ParseOtherBits(t *testing.T) {
	for flags := range 256 {
		for low := range 16 {
			b := headOf(5, nil, []byte("data"))
			b[12], b[13], b[18], b[19] = byte(80+low), byte(flags), byte(low*17), byte(flags)
			seal(b, src, dst)
			checkParse(t, b, src, dst, api.OK)
			if s, _ := Parse(b, src, dst); s.Flags != flags%64 || string(s.Data) != "data" || s.MSS != 0 {
				t.Fatalf("Parse(%x): %+v", b, s)
			}
		}
	}
}

// options tells what these are filled up to, so that they take whole words, by that byte.
func options(fill byte, b ...byte) []byte {
	for len(b)%4 != 0 {
		b = append(b, fill)
	}
	return b
}

func TestP172ParseOptions(t *testing.T) {
	tests := []struct {
		name    string
		options []byte
		mss     int
		e       api.Errno
	}{
		{"none", nil, 0, api.OK},
		{"an MSS", options(0, 2, 4, 2, 24), 536, api.OK},
		{"the least", options(0, 2, 4, 0, 1), 1, api.OK},
		{"the greatest", options(0, 2, 4, 255, 255), 65535, api.OK},
		{"zero", options(0, 2, 4, 0, 0), 0, api.OK},
		{"zero, then another", options(0, 2, 4, 0, 0, 2, 4, 1, 0), 256, api.OK},
		{"zeros, then two", options(0, 2, 4, 0, 0, 2, 4, 0, 0, 2, 4, 0, 3, 2, 4, 0, 9), 3, api.OK},
		{"two", options(0, 2, 4, 0, 5, 2, 4, 0, 6), 5, api.OK},
		{"one, then zero", options(0, 2, 4, 0, 5, 2, 4, 0, 0), 5, api.OK},
		{"behind pads", options(0, 1, 1, 1, 2, 4, 0, 7), 7, api.OK},
		{"behind others", options(0, 3, 3, 9, 4, 2, 8, 10, 1, 2, 3, 4, 5, 6, 7, 8, 2, 4, 0, 8), 8, api.OK},
		{"behind one of two bytes that tells no length of its own", options(1, 5, 2, 2, 4, 1, 1), 257, api.OK},
		{"behind the end", options(0, 0, 2, 4, 0, 9), 0, api.OK},
		{"ahead of the end", options(0, 2, 4, 0, 9, 0, 99), 9, api.OK},
		{"within another", options(0, 30, 6, 2, 4, 0, 9), 0, api.OK},
		{"of length 3", options(0, 2, 3, 9), 0, api.OK},
		{"of length 2", options(0, 2, 2), 0, api.OK},
		{"of length 5", options(0, 2, 5, 1, 2, 3), 0, api.OK},
		{"of length 6, then one", options(0, 2, 6, 1, 2, 3, 4, 2, 4, 0, 4), 4, api.OK},
		{"of length 3, then one", options(1, 2, 3, 9, 2, 4, 0, 4), 4, api.OK},
		{"that fills the head", options(0, append([]byte{77, 40}, filled(38)...)...), 0, api.OK},
		{"pads alone", bytes.Repeat([]byte{1}, 40), 0, api.OK},
		{"the end alone", make([]byte, 40), 0, api.OK},
		{"anything behind the end", options(0, 1, 0, 9, 200, 2, 4), 0, api.OK},
		{"of length 0", options(0, 3, 0), 0, api.ErrForm},
		{"of length 1", options(0, 3, 1), 0, api.ErrForm},
		{"an MSS of length 0", options(0, 2, 0), 0, api.ErrForm},
		{"an MSS of length 1", options(0, 2, 1, 2, 3), 0, api.ErrForm},
		{"without a length", options(1, 1, 1, 1, 3), 0, api.ErrForm},
		{"an MSS without a length", options(1, 1, 1, 1, 2), 0, api.ErrForm},
		{"too long by one", options(1, 3, 5, 1, 1), 0, api.ErrForm},
		{"an MSS that is cut", options(1, 1, 2, 4, 9), 0, api.ErrForm},
		{"far too long", options(1, 3, 255), 0, api.ErrForm},
		{"wrong behind an MSS", options(1, 2, 4, 0, 9, 3, 0), 0, api.ErrForm},
		{"cut behind an MSS", options(1, 2, 4, 0, 9, 3, 9), 0, api.ErrForm},
		{"wrong behind two", options(1, 2, 4, 0, 9, 2, 4, 0, 8, 1, 1, 1, 254), 0, api.ErrForm},
	}
	for _, c := range tests {
		for _, data := range [][]byte{nil, {0}, bytes.Repeat([]byte{1}, 60), {2, 4, 0, 99}} {
			b := headOf(5+len(c.options)/4, c.options, data)
			s, e := Parse(b, src, dst)
			if e != c.e || s.MSS != c.mss || e == api.OK && !bytes.Equal(s.Data, data) {
				t.Errorf("Parse of options %s with %x: %+v, %d", c.name, data, s, e)
			}
			checkParse(t, b, src, dst, c.e)
		}
	}
}

// Each pair of first bytes, with the MSS that stands behind it, or in it.
func TestP172ParseAllFirstOptions(t *testing.T) {
	for kind := range 256 {
		for length := range 256 {
			b := headOf(8, []byte{byte(kind), byte(length), 1, 9, 2, 4, 3, 4, 1, 1, 1, 1}, filled(3))
			_, e := modelParse(b, src, dst)
			checkParse(t, b, src, dst, e)
		}
	}
	for mss := range 65536 {
		b := headOf(6, []byte{2, 4, byte(mss >> 8), byte(mss)}, nil)
		if s, e := Parse(b, src, dst); s.MSS != mss || e != api.OK {
			t.Fatalf("Parse of MSS %d: %+v, %d", mss, s, e)
		}
	}
}

// More data than Bytes takes are parsed, as long as all of it is at most 990 bytes.
func TestP172ParseMoreData(t *testing.T) {
	for _, n := range []int{900, 901, 969, 970} {
		s, e := Parse(headOf(5, nil, filled(n)), src, dst)
		if e != api.OK || !bytes.Equal(s.Data, filled(n)) || Room(s) != n {
			t.Errorf("Parse of %d bytes of data: %d, %d", n, len(s.Data), e)
		}
	}
	checkParse(t, headOf(5, nil, filled(971)), src, dst, api.ErrForm)
}

// The errors come in the chapter's order: all bytes' number, the sum, the head's length, the options.
func TestP172ParseOrder(t *testing.T) {
	for _, b := range [][]byte{headOf(4, nil, nil), headOf(6, nil, nil), headOf(15, nil, filled(39)), headOf(0, nil, nil), headOf(6, []byte{3, 0, 0, 0}, nil)} {
		checkParse(t, b, src, dst, api.ErrForm)
		b[9] ^= 1
		checkParse(t, b, src, dst, api.ErrSum)
		checkParse(t, b[:19], src, dst, api.ErrForm)
		checkParse(t, append(b, make([]byte, 991-len(b))...), src, dst, api.ErrForm)
		checkParse(t, append(b, make([]byte, 990-len(b))...), src, dst, api.ErrSum)
	}
}

func TestP171NewMemory(t *testing.T) {
	room := make([]byte, 64)
	s := Seg{Data: room[30:33]}
	b, _ := Bytes(s, src, dst)
	for i := range b {
		b[i] = 9
	}
	one, _ := Head(s, src, dst, 0, 3)
	two, _ := Head(s, src, dst, 0, 3)
	clear(append(one, 1, 2, 3)[:23])
	if !bytes.Equal(room, make([]byte, 64)) || !bytes.Equal(two, modelHead(s, src, dst, 0, 3)) {
		t.Errorf("memory is shared: %x, %x", room, two)
	}
}

func TestP172NewMemory(t *testing.T) {
	b := append(headOf(6, []byte{2, 4, 5, 6}, filled(4)), filled(8)...)
	was := bytes.Clone(b)
	s, _ := Parse(b[:28], src, dst)
	s.Data = append(s.Data, 77)
	clear(s.Data)
	if !bytes.Equal(b, was) {
		t.Errorf("parsed data are in the segment's bytes: %x", b)
	}
	s, _ = Parse(b[:28], src, dst)
	clear(b)
	if !bytes.Equal(s.Data, was[24:28]) {
		t.Errorf("parsed data are in the segment's bytes: %x", s.Data)
	}
}

// randomSeg tells segments whose numbers are often at their ends.
func randomSeg(r *rand.Rand) Seg {
	s := Seg{From: uint16(r.Uint32()), To: uint16(r.Uint32()), Seq: r.Uint32(), Ack: r.Uint32(), Window: uint16(r.Uint32())}
	if r.Intn(3) == 0 {
		s.From, s.Window = sixteens[r.Intn(len(sixteens))], sixteens[r.Intn(len(sixteens))]
		s.Seq, s.Ack = numbers[r.Intn(len(numbers))], numbers[r.Intn(len(numbers))]
	}
	s.Flags = r.Intn(64)
	s.MSS = r.Intn(2) * r.Intn(65536)
	s.Data = make([]byte, r.Intn(901))
	r.Read(s.Data)
	return s
}

func TestP173WhatIsBuiltIsParsed(t *testing.T) {
	r := rand.New(rand.NewSource(17))
	for range 20000 {
		checkBuilt(t, randomSeg(r), r.Uint32(), r.Uint32())
	}
}

// The part may be joined of pieces, and the head is still that of the bytes.
func TestP173HeadOfJoinedParts(t *testing.T) {
	r := rand.New(rand.NewSource(18))
	for range 5000 {
		s := randomSeg(r)
		cut := r.Intn(len(s.Data) + 1)
		one, _ := sums.Part(s.Data[:cut])
		two, _ := sums.Part(s.Data[cut:])
		part, _ := sums.Join(one, cut, two)
		head, e := Head(s, src, dst, part, len(s.Data))
		if b, err := Bytes(s, src, dst); e != api.OK || err != api.OK || !bytes.Equal(append(head, s.Data...), b) {
			t.Fatalf("Head(%+v) of %d and %d bytes: %x, %d; not the beginning of %x", s, cut, len(s.Data)-cut, head, e, b)
		}
	}
}

// randomOptions tells up to 40 bytes that are mostly options that may be.
func randomOptions(r *rand.Rand) []byte {
	var b []byte
	for range r.Intn(8) {
		switch r.Intn(8) {
		case 0, 1:
			b = append(b, 1)
		case 2, 3, 4:
			b = append(b, 2, 4, byte(r.Intn(2)), byte(r.Intn(3)))
		case 5:
			b = append(b, byte(r.Intn(5)), byte(r.Intn(6)))
		case 6:
			n := 2 + r.Intn(6)
			b = append(append(b, byte(2+r.Intn(3)), byte(n)), filled(n-2)...)
		case 7:
			b = append(b, byte(r.Intn(3)*r.Intn(2)))
		}
	}
	return options(byte(r.Intn(3)), b[:min(len(b), 40)]...)
}

func TestP172Random(t *testing.T) {
	r := rand.New(rand.NewSource(19))
	told := map[api.Errno]int{}
	for range 200000 {
		o := randomOptions(r)
		b := headOf(5+len(o)/4, o, filled(r.Intn(30)))
		switch r.Intn(6) {
		case 0:
			b[r.Intn(len(b))] ^= 1 << r.Intn(8)
		case 1:
			b = b[:r.Intn(len(b)+1)]
		case 2:
			b[12] = byte(r.Uint32())
			seal(b, src, dst)
		}
		_, e := modelParse(b, src, dst)
		checkParse(t, b, src, dst, e)
		told[e]++
	}
	if told[api.OK] < 1000 || told[api.ErrForm] < 1000 || told[api.ErrSum] < 1000 {
		t.Errorf("too few of each kind: %v", told)
	}
}

func TestExamples(t *testing.T) {
	if n := Room(Seg{Flags: 2}); n != 1 {
		t.Errorf("Room of SYN: %d", n)
	}
}
