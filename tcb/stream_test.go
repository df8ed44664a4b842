package tcb

import (
	"bytes"
	"math/rand"
	"slices"
	"testing"

	"pantler/api"
	"pantler/seg"
)

// talk is a connection, its peer, and what is on its way between them.
type talk struct {
	*testing.T
	rnd      *rand.Rand
	x        *TCB
	iss, irs uint32

	written, una int // of the server's stream
	closed       bool
	read         []byte

	stream []byte // the peer's
	acked  int    // how many places of that the server acknowledged
	limit  int    // the place behind the last one that the server's window lets
	got    []bool // which places of the server's stream the peer has
	hasFIN bool
	window int // the peer's

	toServer []seg.Seg
	toPeer   []Out
}

func talkOf(t *testing.T, rnd *rand.Rand) *talk {
	t.Helper()
	k := &talk{T: t, rnd: rnd, iss: uint32(-rnd.Intn(4000)), irs: rnd.Uint32(), window: 1 + rnd.Intn(400)}
	if rnd.Intn(2) == 0 {
		k.irs = uint32(-rnd.Intn(2000))
	}
	k.stream = make([]byte, rnd.Intn(2500))
	rnd.Read(k.stream)
	room := 1 + rnd.Intn(1<<(1+rnd.Intn(9)))
	x, out, e := Accept(k.iss, seg.Seg{Seq: k.irs, Flags: 2, Window: 9, MSS: 1 + rnd.Intn(120)}, 1+rnd.Intn(120), room)
	if e != api.OK || len(out) != 1 {
		t.Fatalf("%+v, %d", out, e)
	}
	k.x, k.limit = x, room
	k.toServer = append(k.toServer, k.segment(0, 0))
	return k
}

// sent takes what the server sent, and looks whether it may be.
func (k *talk) sent(out []Out) {
	k.Helper()
	una, nxt, end := k.x.Places()
	if una < k.una || una > nxt || end != k.written || nxt > end+1 || nxt > end && !k.closed {
		k.Fatalf("places %d, %d, %d, behind %d, %d", una, nxt, end, k.una, k.written)
	}
	k.una = una
	for _, o := range out {
		if o.Len < 0 || o.From < 0 || o.From+o.Len > min(nxt, end) || o.Len > 0 && o.Seq != k.iss+1+uint32(o.From) {
			k.Fatalf("sent %+v, of %d, %d", o, nxt, end)
		}
		if o.Flags&1 != 0 && (!k.closed || o.Len != 0 || o.Seq != k.iss+1+uint32(end)) {
			k.Fatalf("sent %+v, of %d, %d", o, nxt, end)
		}
	}
	k.toPeer = append(k.toPeer, out...)
}

// acks tells the first place of the server's stream that the peer doesn't have.
func (k *talk) acks() int {
	n := slices.Index(k.got, false)
	if n < 0 {
		n = len(k.got)
	}
	if k.hasFIN && n == k.written {
		n++
	}
	return n
}

// segment tells a segment of the peer with n bytes, and the FIN, if they reach the end.
func (k *talk) segment(from, n int) seg.Seg {
	s := seg.Seg{Seq: k.irs + 1 + uint32(from), Ack: k.iss + 1 + uint32(k.acks()), Flags: 16, Window: uint16(k.window)}
	if from <= len(k.stream) && n > 0 {
		s.Data = k.stream[from:min(from+n, len(k.stream))]
		if from+n >= len(k.stream) {
			s.Flags = 17
		}
	}
	return s
}

// arrive lets the peer take what the server sent.
func (k *talk) arrive(o Out) {
	k.Helper()
	if o.Flags&16 != 0 {
		acked := int(o.Ack - k.irs - 1)
		if acked > len(k.stream)+1 {
			k.Fatalf("%+v acknowledges what wasn't sent", o)
		}
		k.acked = max(k.acked, acked)
		k.limit = max(k.limit, acked+o.Window)
	}
	for len(k.got) < o.From+o.Len {
		k.got = append(k.got, false)
	}
	for i := range o.Len {
		k.got[o.From+i] = true
	}
	if o.Flags&1 != 0 {
		k.hasFIN = true
	}
	if o.Len > 0 || o.Flags&(1|2) != 0 {
		k.toServer = append(k.toServer, k.segment(k.acked, 0))
	}
}

func (k *talk) readAll() {
	k.Helper()
	b, out := k.x.Read()
	k.read = append(k.read, b...)
	if !bytes.HasPrefix(k.stream, k.read) {
		k.Fatalf("%d bytes were read that are no beginning", len(k.read))
	}
	k.sent(out)
}

func (k *talk) write(n int) {
	k.Helper()
	if out, e := k.x.Write(n); e == api.OK {
		k.written += n
		k.sent(out)
	}
}

func (k *talk) close() {
	k.Helper()
	if k.x.State() >= 2 && !k.closed {
		k.closed = true
		out, e := k.x.Close()
		if e != api.OK {
			k.Fatalf("Close: %d", e)
		}
		k.sent(out)
	}
}

// take tells one of what is on its way, which mostly goes, and whether it comes.
func take[T any](rnd *rand.Rand, way *[]T, lost int) (T, bool) {
	if len(*way) == 0 {
		var no T
		return no, false
	}
	i := rnd.Intn(len(*way))
	one := (*way)[i]
	if rnd.Intn(6) > 0 {
		*way = slices.Delete(*way, i, i+1)
	}
	return one, rnd.Intn(100) >= lost
}

// stir does anything that may happen on a bad way.
func (k *talk) stir(lost int) {
	k.Helper()
	switch k.rnd.Intn(10) {
	case 0, 1, 2:
		if s, comes := take(k.rnd, &k.toServer, lost); comes {
			k.sent(k.x.In(s))
		}
	case 3, 4, 5:
		if o, comes := take(k.rnd, &k.toPeer, lost); comes {
			k.arrive(o)
		}
	case 6:
		// Anything of the stream that the window lets, new or old.
		at := max(0, k.acked-k.rnd.Intn(9)) + k.rnd.Intn(k.limit-k.acked+9)
		k.toServer = append(k.toServer, k.segment(at, min(k.rnd.Intn(150), max(0, k.limit-at)+1)))
	case 7:
		if k.rnd.Intn(6) == 0 {
			k.sent(k.x.Tick())
		}
	case 8:
		if k.written < 3000 {
			k.write(k.rnd.Intn(200))
		}
		k.window = k.rnd.Intn(500) * k.rnd.Intn(3)
	case 9:
		k.readAll()
		if k.rnd.Intn(200) == 0 {
			k.close()
		}
	}
}

// calm lets all come, in order, till both streams have ended.
func (k *talk) calm() {
	k.Helper()
	k.window = 300
	for round := 0; k.x.State() != 0; round++ {
		if round == 3000 {
			k.Fatalf("state %d, %d of %d acknowledged, %d of %d read", k.x.State(), k.una, k.written, len(k.read), len(k.stream))
		}
		// A FIN that came again and again would let the server rest forever.
		if k.acked <= len(k.stream) {
			k.toServer = append(k.toServer, k.segment(k.acked, 100))
		}
		for _, s := range k.toServer {
			k.sent(k.x.In(s))
		}
		k.toServer = nil
		k.readAll()
		k.close()
		for _, o := range k.toPeer {
			k.arrive(o)
		}
		k.toPeer = nil
		k.sent(k.x.Tick())
	}
}

// Whatever gets lost, doubled, or out of order: both streams come whole, once nothing is lost any more, unless the server gave up by then.
func TestP225StreamsOnABadWay(t *testing.T) {
	whole := 0
	for seed := range int64(400) {
		k := talkOf(t, rand.New(rand.NewSource(seed)))
		lost := k.rnd.Intn(50)
		for range 500 {
			k.stir(lost)
		}
		if k.x.State() == 0 {
			continue
		}
		whole++
		k.calm()
		if !bytes.Equal(k.read, k.stream) || !k.x.Done() {
			t.Fatalf("seed %d: %d of %d bytes were read, done: %t", seed, len(k.read), len(k.stream), k.x.Done())
		}
		if k.acks() != k.written+1 || k.una != k.written {
			t.Fatalf("seed %d: %d of %d bytes came, %d are acknowledged", seed, k.acks(), k.written, k.una)
		}
	}
	if whole < 350 {
		t.Errorf("just %d were whole", whole)
	}
}

// A peer that sends anything at all breaks nothing that follows from the chapter.
func TestP225PlacesWhateverComes(t *testing.T) {
	for seed := range int64(150) {
		k := talkOf(t, rand.New(rand.NewSource(seed)))
		k.sent(k.x.In(k.toServer[0]))
		for range 400 {
			_, nxt, _ := k.x.Places()
			s := k.segment(k.acked, 0)
			s.Seq += uint32(k.rnd.Intn(9) - 4)
			s.Ack = k.iss + 1 + uint32(k.una+k.rnd.Intn(nxt-k.una+9)-4)
			s.Flags = []int{16, 16, 16, 24, 0, 18, 48}[k.rnd.Intn(7)]
			s.Window = []uint16{0, 1, uint16(k.rnd.Intn(500)), 65535}[k.rnd.Intn(4)]
			k.sent(k.x.In(s))
			k.write(k.rnd.Intn(100))
			if k.rnd.Intn(4) == 0 {
				k.sent(k.x.Tick())
			}
			if k.rnd.Intn(300) == 0 {
				k.close()
			}
		}
	}
}
