package eth

import (
	"bytes"
	"encoding/binary"
	"math"
	"math/rand"
	"reflect"
	"testing"

	"pantler/api"
)

const all = 1<<48 - 1 // the address of everybody

// six are the bytes of an address.
func six(a uint64) []byte { return binary.BigEndian.AppendUint64(nil, a)[2:] }

// modelHead are the first 14 bytes of a packet, by the chapter's words.
func modelHead(p Packet) []byte {
	return binary.BigEndian.AppendUint16(append(six(p.To), six(p.From)...), p.Type)
}

// modelARP are the bytes of a message, by the chapter's words.
func modelARP(a ARP) []byte {
	b := []byte{0, 1, 8, 0, 6, 4, byte(a.Op >> 8), byte(a.Op)}
	b = binary.BigEndian.AppendUint32(append(b, six(a.SrcMAC)...), a.SrcIP)
	return binary.BigEndian.AppendUint32(append(b, six(a.DstMAC)...), a.DstIP)
}

// modelAnswer is what h answers, by the chapter's words.
func modelAnswer(h Host, p Packet) (Packet, bool) {
	if p.To != h.MAC && p.To != all || p.Type != 2054 || len(p.Body) < 28 || h.MAC > all {
		return Packet{}, false
	}
	b := p.Body
	if !bytes.Equal(b[:8], []byte{0, 1, 8, 0, 6, 4, 0, 1}) || binary.BigEndian.Uint32(b[24:]) != h.IP {
		return Packet{}, false
	}
	body := append([]byte{0, 1, 8, 0, 6, 4, 0, 2}, six(h.MAC)...)
	body = append(binary.BigEndian.AppendUint32(body, h.IP), b[8:18]...)
	return Packet{To: p.From, From: h.MAC, Type: 2054, Body: body}, true
}

func same(p, q Packet) bool {
	return p.To == q.To && p.From == q.From && p.Type == q.Type && bytes.Equal(p.Body, q.Body)
}

// filled are n bytes that differ from their neighbours.
func filled(n int) []byte {
	b := make([]byte, n)
	for i := range b {
		b[i] = byte(i*7 + 1)
	}
	return b
}

var (
	goodMACs = []uint64{0, 1, 7, 255, 256, 0x0a0b0c0d0e0f, 1 << 40, 1 << 47, all - 1, all}
	wideMACs = []uint64{1 << 48, 1<<48 + 1, 1 << 56, 1 << 63, math.MaxUint64, math.MaxUint64 - 1, all << 16}
	ips      = []uint32{0, 1, 0x0a000001, 0x01020304, 1 << 31, math.MaxUint32}
	badOps   = []int{0, 3, -1, 4, 255, 256, 257, 512, 65535, 65536, 65537, 65538, 1<<32 + 1, 1<<32 + 2, math.MaxInt, math.MinInt, math.MinInt + 1}
)

func TestP141Bytes(t *testing.T) {
	for _, to := range goodMACs {
		for _, from := range goodMACs {
			for _, kind := range []uint16{0, 1, 255, 256, 2048, 2054, 0x1234, math.MaxUint16} {
				for _, n := range []int{0, 1, 28, 1009, 1010} {
					p := Packet{To: to, From: from, Type: kind, Body: filled(n)}
					b, e := Bytes(p)
					if want := append(modelHead(p), p.Body...); !bytes.Equal(b, want) || e != api.OK {
						t.Fatalf("Bytes(%+v): %v, %d; not %v", p, b, e, want)
					}
					head, e := Head(p)
					if !bytes.Equal(head, b[:14]) || e != api.OK {
						t.Fatalf("Head(%+v): %v, %d", p, head, e)
					}
				}
			}
		}
	}
}

func TestP141BytesTooLong(t *testing.T) {
	for _, n := range []int{1011, 1012, 1024, 1025, 1 << 20} {
		p := Packet{To: 1, From: 2, Type: 3, Body: filled(n)}
		if b, e := Bytes(p); len(b) != 0 || e != api.ErrLong {
			t.Errorf("Bytes of a body of %d: %d bytes, %d", n, len(b), e)
		}
		if b, e := Head(p); !bytes.Equal(b, modelHead(p)) || e != api.OK {
			t.Errorf("Head of a body of %d: %v, %d", n, b, e)
		}
	}
}

func TestP141WideAddresses(t *testing.T) {
	for _, wide := range wideMACs {
		for _, n := range []int{0, 1, 1010, 1011, 1 << 16} {
			for _, p := range []Packet{{To: wide}, {From: wide}, {To: wide, From: wide}, {To: 1, From: wide, Type: 9}} {
				p.Body = filled(n)
				if b, e := Bytes(p); len(b) != 0 || e != api.ErrArg {
					t.Errorf("Bytes from %x to %x: %v, %d", p.From, p.To, b, e)
				}
				if b, e := Head(p); len(b) != 0 || e != api.ErrArg {
					t.Errorf("Head from %x to %x: %v, %d", p.From, p.To, b, e)
				}
			}
		}
	}
}

func TestP141Parse(t *testing.T) {
	for n := range 1100 {
		b := filled(n)
		want, e := Packet{}, api.OK
		switch {
		case n > 1024:
			e = api.ErrLong
		case n < 14:
			e = api.ErrForm
		default:
			want = Packet{To: 0x01080f161d24, From: 0x2b323940474e, Type: 0x555c, Body: b[14:]}
		}
		if p, told := Parse(b); !same(p, want) || told != e {
			t.Fatalf("Parse of %d bytes: %+v, %d", n, p, told)
		}
	}
	if p, e := Parse(nil); !same(p, Packet{}) || e != api.ErrForm {
		t.Errorf("Parse(nil): %+v, %d", p, e)
	}
	if p, e := Parse(make([]byte, 1<<20)); !same(p, Packet{}) || e != api.ErrLong {
		t.Errorf("Parse of 2^20 bytes: %+v, %d", p, e)
	}
}

func TestP141NewMemory(t *testing.T) {
	room := make([]byte, 64)
	p := Packet{To: 1, From: 2, Type: 3, Body: room[20:23]}
	b, _ := Bytes(p)
	head, _ := Head(p)
	q, _ := Parse(b)
	for i := range b {
		b[i] = 9
	}
	for i := range head {
		head[i] = 9
	}
	if !bytes.Equal(room, make([]byte, 64)) || !same(q, Packet{To: 1, From: 2, Type: 3, Body: []byte{0, 0, 0}}) {
		t.Errorf("memory is shared: %v, %+v", room, q)
	}
	q.Body[0] = 7
	if b[14] != 9 {
		t.Error("a parsed body is in the packet's bytes")
	}
}

func TestP142Bytes(t *testing.T) {
	for op := 1; op <= 2; op++ {
		for i, src := range goodMACs {
			for j, dst := range goodMACs {
				a := ARP{Op: op, SrcMAC: src, SrcIP: ips[i%len(ips)], DstMAC: dst, DstIP: ips[j%len(ips)]}
				b, e := a.Bytes()
				if want := modelARP(a); !bytes.Equal(b, want) || e != api.OK {
					t.Fatalf("Bytes of %+v: %v, %d; not %v", a, b, e, want)
				}
				if m, e := ParseARP(b); m != a || e != api.OK {
					t.Fatalf("ParseARP(%v): %+v, %d; not %+v", b, m, e, a)
				}
			}
		}
	}
}

func TestP142BytesErrors(t *testing.T) {
	for _, op := range badOps {
		for _, a := range []ARP{{Op: op}, {Op: op, SrcMAC: 1, SrcIP: 2, DstMAC: 3, DstIP: 4}, {Op: op, SrcMAC: 1 << 48}} {
			if b, e := a.Bytes(); len(b) != 0 || e != api.ErrArg {
				t.Errorf("Bytes of %+v: %v, %d", a, b, e)
			}
		}
	}
	for _, wide := range wideMACs {
		for op := 1; op <= 2; op++ {
			for _, a := range []ARP{{Op: op, SrcMAC: wide}, {Op: op, DstMAC: wide}, {Op: op, SrcMAC: wide, DstMAC: wide}, {Op: op, SrcMAC: 1, DstMAC: wide, DstIP: 5}} {
				if b, e := a.Bytes(); len(b) != 0 || e != api.ErrArg {
					t.Errorf("Bytes of %+v: %v, %d", a, b, e)
				}
			}
		}
	}
}

func TestP142ParseLengths(t *testing.T) {
	a := ARP{Op: 2, SrcMAC: 0x010203040506, SrcIP: 0x0708090a, DstMAC: 0x0b0c0d0e0f10, DstIP: 0x11121314}
	b := append(modelARP(a), filled(3000)...)
	for n := range len(b) {
		want, e := a, api.OK
		if n < 28 {
			want, e = ARP{}, api.ErrForm
		}
		if m, told := ParseARP(b[:n]); m != want || told != e {
			t.Fatalf("ParseARP of %d bytes: %+v, %d", n, m, told)
		}
	}
	if m, e := ParseARP(nil); m != (ARP{}) || e != api.ErrForm {
		t.Errorf("ParseARP(nil): %+v, %d", m, e)
	}
}

// Each byte is given each value: only the first eight tell whether there is a message, and of these the last one may be 1 or 2.
func TestP142ParseEachByte(t *testing.T) {
	a := ARP{Op: 1, SrcMAC: 0x010203040506, SrcIP: 0x0708090a, DstMAC: 0x0b0c0d0e0f10, DstIP: 0x11121314}
	good := modelARP(a)
	for i := range good {
		for c := range 256 {
			b := bytes.Clone(good)
			b[i] = byte(c)
			m, e := ParseARP(b)
			if i > 7 || b[i] == good[i] || i == 7 && c == 2 {
				if e != api.OK || !bytes.Equal(modelARP(m), b) {
					t.Fatalf("ParseARP(%v): %+v, %d", b, m, e)
				}
			} else if m != (ARP{}) || e != api.ErrForm {
				t.Fatalf("ParseARP(%v): %+v, %d", b, m, e)
			}
		}
	}
}

func TestP143ForMe(t *testing.T) {
	macs := append(append([]uint64{}, goodMACs...), wideMACs...)
	for _, mine := range macs {
		for _, to := range macs {
			want := to == mine || to == all
			for _, kind := range []uint16{0, 2048, 2054} {
				p := Packet{To: to, From: 3, Type: kind, Body: filled(int(kind))}
				if ForMe(Host{MAC: mine, IP: 5}, p) != want {
					t.Errorf("ForMe of %x, to %x, isn't %t", mine, to, want)
				}
			}
		}
	}
}

func checkAnswer(t *testing.T, h Host, p Packet, wanted bool) {
	t.Helper()
	body := bytes.Clone(p.Body)
	want, is := modelAnswer(h, p)
	if is != wanted {
		t.Fatalf("the model of %+v and %+v is %t", h, p, is)
	}
	if got, told := Answer(h, p); !same(got, want) || told != is || !is && got.Body != nil {
		t.Errorf("Answer(%+v, %+v): %+v, %t; not %+v, %t", h, p, got, told, want, is)
	}
	if !bytes.Equal(p.Body, body) {
		t.Errorf("Answer changed what was asked")
	}
}

func TestP143Answer(t *testing.T) {
	for _, mine := range goodMACs {
		for i, ip := range ips {
			h := Host{MAC: mine, IP: ip}
			asked := ARP{Op: 1, SrcMAC: goodMACs[i], SrcIP: ips[len(ips)-1-i], DstMAC: goodMACs[i+3], DstIP: ip}
			for _, more := range []int{0, 1, 18, 982} {
				body := append(modelARP(asked), filled(more)...)
				checkAnswer(t, h, Packet{To: mine, From: 0x60, Type: 2054, Body: body}, true)
				checkAnswer(t, h, Packet{To: all, From: all, Type: 2054, Body: body}, true)
				checkAnswer(t, h, Packet{To: all, From: mine, Type: 2054, Body: body}, true)
				checkAnswer(t, h, Packet{To: mine ^ 1, From: 0x60, Type: 2054, Body: body}, mine^1 == all)
			}
		}
	}
}

func TestP143NoAnswer(t *testing.T) {
	h := Host{MAC: 7, IP: 0x0a000001}
	good := Packet{To: all, From: 9, Type: 2054, Body: modelARP(ARP{Op: 1, SrcMAC: 9, SrcIP: 0x0a000002, DstIP: h.IP})}
	checkAnswer(t, h, good, true)
	for _, to := range []uint64{0, 6, 8, all - 1, 1<<48 + 7, 1 << 48, math.MaxUint64} {
		checkAnswer(t, h, Packet{To: to, From: 9, Type: 2054, Body: good.Body}, false)
	}
	for _, kind := range []uint16{0, 2048, 2053, 2055, 6, 8, math.MaxUint16} {
		checkAnswer(t, h, Packet{To: 7, From: 9, Type: kind, Body: good.Body}, false)
	}
	for n := range 28 {
		checkAnswer(t, h, Packet{To: 7, From: 9, Type: 2054, Body: good.Body[:n]}, false)
	}
	for i := range 8 {
		body := bytes.Clone(good.Body)
		body[i] ^= 4
		checkAnswer(t, h, Packet{To: 7, From: 9, Type: 2054, Body: body}, false)
	}
	for _, op := range badOps {
		body := modelARP(ARP{Op: op, SrcMAC: 9, DstIP: h.IP})
		checkAnswer(t, h, Packet{To: 7, From: 9, Type: 2054, Body: body}, op&65535 == 1)
	}
	for _, ip := range []uint32{0, 0x0a000000, 0x0a000002, 0x0b000001, math.MaxUint32} {
		checkAnswer(t, h, Packet{To: 7, From: 9, Type: 2054, Body: modelARP(ARP{Op: 1, SrcIP: h.IP, DstIP: ip})}, false)
	}
	checkAnswer(t, Host{}, Packet{}, false)
}

// A host whose address has more than six bytes answers nothing; an asker that has it (in its packet alone) is answered.
func TestP143AnswerWideAddresses(t *testing.T) {
	body := modelARP(ARP{Op: 1, SrcMAC: 9, SrcIP: 2, DstIP: 1})
	for _, wide := range wideMACs {
		h := Host{MAC: wide, IP: 1}
		checkAnswer(t, h, Packet{To: wide, From: 9, Type: 2054, Body: body}, false)
		checkAnswer(t, h, Packet{To: all, From: 9, Type: 2054, Body: body}, false)
		checkAnswer(t, Host{MAC: 7, IP: 1}, Packet{To: 7, From: wide, Type: 2054, Body: body}, true)
	}
}

func TestP143AnswerOfLongBodies(t *testing.T) {
	body := append(modelARP(ARP{Op: 1, SrcMAC: 9, SrcIP: 2, DstIP: 1}), filled(1<<16)...)
	checkAnswer(t, Host{MAC: 7, IP: 1}, Packet{To: 7, From: 9, Type: 2054, Body: body}, true)
}

func TestP143AnswerInNewMemory(t *testing.T) {
	h := Host{MAC: 7, IP: 1}
	p := Packet{To: 7, From: 9, Type: 2054, Body: modelARP(ARP{Op: 1, SrcMAC: 9, SrcIP: 2, DstIP: 1})}
	one, _ := Answer(h, p)
	two, _ := Answer(h, p)
	clear(one.Body)
	if want, _ := modelAnswer(h, p); !same(two, want) {
		t.Errorf("answers share memory: %+v", two)
	}
}

// randomMAC tells addresses that are often the same, and sometimes too wide.
func randomMAC(r *rand.Rand) uint64 {
	switch r.Intn(12) {
	case 0:
		return wideMACs[r.Intn(len(wideMACs))]
	case 1:
		return r.Uint64() >> 16
	case 2, 3:
		return all
	}
	return uint64(r.Intn(3))
}

// randomBody tells messages, most of them with something turned, cut off or put behind.
func randomBody(r *rand.Rand) []byte {
	b := modelARP(ARP{
		Op: 1 + r.Intn(8)/6, SrcMAC: randomMAC(r) & all, SrcIP: uint32(r.Intn(3)), DstMAC: randomMAC(r) & all, DstIP: uint32(r.Intn(3)),
	})
	switch r.Intn(6) {
	case 0:
		b[r.Intn(len(b))] ^= 1 << r.Intn(8)
	case 1:
		b = b[:r.Intn(len(b)+1)]
	case 2:
		b = append(b, filled(r.Intn(1200))...)
	}
	return b
}

func TestP144Random(t *testing.T) {
	r := rand.New(rand.NewSource(14))
	answers := 0
	for range 200000 {
		h := Host{MAC: randomMAC(r), IP: uint32(r.Intn(3))}
		p := Packet{To: randomMAC(r), From: randomMAC(r), Type: 2054 - uint16(r.Intn(8)/7), Body: randomBody(r)}
		want, is := modelAnswer(h, p)
		got, told := Answer(h, p)
		if !same(got, want) || told != is {
			t.Fatalf("Answer(%+v, %+v): %+v, %t; not %+v, %t", h, p, got, told, want, is)
		}
		if is {
			answers++
			checkUnanswered(t, got, h, r)
		}
		checkBack(t, p)
	}
	if answers < 10000 {
		t.Errorf("%d answers", answers)
	}
}

// checkUnanswered: nobody answers an answer, whoever it is.
func checkUnanswered(t *testing.T, p Packet, h Host, r *rand.Rand) {
	t.Helper()
	m, e := ParseARP(p.Body)
	if e != api.OK || m.Op != 2 {
		t.Fatalf("the message of an answer: %+v, %d", m, e)
	}
	for _, h := range []Host{h, {p.To, m.DstIP}, {p.To, m.SrcIP}, {p.From, m.DstIP}, {randomMAC(r), m.DstIP}, {all, m.DstIP}} {
		if x, is := Answer(h, p); is || !reflect.DeepEqual(x, Packet{}) {
			t.Fatalf("an answer is answered by %+v: %+v", h, x)
		}
	}
}

// checkBack: what is built is parsed.
func checkBack(t *testing.T, p Packet) {
	t.Helper()
	b, e := Bytes(p)
	want := api.OK
	switch {
	case p.To > all || p.From > all:
		want = api.ErrArg
	case len(p.Body) > 1010:
		want = api.ErrLong
	}
	if e != want {
		t.Fatalf("Bytes(%+v): %d, not %d", p, e, want)
	}
	if e != api.OK {
		return
	}
	if q, e := Parse(b); !same(p, q) || e != api.OK {
		t.Fatalf("Parse(Bytes(%+v)): %+v, %d", p, q, e)
	}
}

func TestExamples(t *testing.T) {
	want := []byte{255, 255, 255, 255, 255, 255, 0, 0, 0, 0, 0, 1, 8, 0}
	if b, e := Head(Packet{To: all, From: 1, Type: 2048}); !bytes.Equal(b, want) || e != api.OK {
		t.Errorf("Head: %v, %d", b, e)
	}
}
