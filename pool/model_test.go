package pool

import (
	"fmt"
	"math/rand"
	"slices"
	"testing"

	"pantler/api"
	"pantler/gather"
	"pantler/kern"
)

// modelSlot is a slot of the model.
type modelSlot struct {
	has         string // EMPTY, BLOCK, FORGOTTEN or HEAD
	block       int
	n           int
	part        [2]float64 // of even and of odd places
	pins, holds int
	mark        bool
	text        [256]byte // what its frame has, whatever the slot is
}

// model is a pool by the chapter's words, the frame of whose slot i is i, and the disk as it ought to be.
type model struct {
	slots  []modelSlot
	hand   int
	fills  int
	blocks [16][256]byte
	power  bool
	waits  []int // the frame of each transfer
}

func modelOf(n int) *model {
	m := &model{slots: make([]modelSlot, n), power: true}
	for i := range m.slots {
		m.slots[i].has = "EMPTY"
	}
	for b := range 12 {
		copy(m.blocks[b][:], filled(byte(b), 256))
	}
	return m
}

// clear lets a slot be empty.
func (s *modelSlot) clear() {
	s.has, s.block, s.n, s.part = "EMPTY", 0, 0, [2]float64{}
}

// one takes a slot, and tells -1, if there is none.
func (m *model) one() int {
	mayBe := func(i int) bool { return m.slots[i].pins == 0 && m.slots[i].holds == 0 }
	for i := range m.slots {
		if m.slots[i].has == "EMPTY" && mayBe(i) {
			return i
		}
	}
	for steps := 0; steps < 2*len(m.slots); steps++ {
		at := m.hand
		m.hand++
		if m.hand == len(m.slots) {
			m.hand = 0
		}
		if mayBe(at) && !m.slots[at].mark {
			m.slots[at].clear()
			return at
		}
		m.slots[at].mark = false
	}
	return -1
}

// blockAt tells which slot has the block, or -1.
func (m *model) blockAt(block int) int {
	return slices.IndexFunc(m.slots, func(s modelSlot) bool { return s.has == "BLOCK" && s.block == block })
}

func (m *model) get(block, n int, even, odd float64) (int, api.Errno) {
	if n < 0 || n > 256 {
		return 0, api.ErrArg
	}
	if at := m.blockAt(block); at >= 0 {
		m.slots[at].pins++
		m.slots[at].mark = true
		return at, api.OK
	}
	at := m.one()
	if at < 0 {
		return 0, api.ErrPinned
	}
	switch {
	case !m.power:
		return 0, api.ErrPower
	case block < 0 || block > 15:
		return 0, api.ErrBlock
	case block > 11:
		return 0, api.ErrOwner
	}
	m.fills++
	s := &m.slots[at]
	s.has, s.block, s.n, s.part, s.pins, s.mark, s.text = "BLOCK", block, n, [2]float64{even, odd}, 1, true, m.blocks[block]
	return at, api.OK
}

func (m *model) head(b []byte) (int, api.Errno) {
	if len(b) > 256 {
		return 0, api.ErrLong
	}
	at := m.one()
	if at < 0 {
		return 0, api.ErrPinned
	}
	s := &m.slots[at]
	s.has, s.n, s.part, s.pins = "HEAD", len(b), sumsOf(b), 1
	copy(s.text[:], b)
	return at, api.OK
}

// sumsOf tells the sums of the bytes at even and at odd places.
func sumsOf(b []byte) (sum [2]float64) {
	for i, x := range b {
		sum[i%2] += float64(x)
	}
	return sum
}

// needed tells whether f is a frame of the pool with pins.
func (m *model) needed(f int) bool { return f >= 0 && f < len(m.slots) && m.slots[f].pins > 0 }

func (m *model) pin(f int) api.Errno {
	if !m.needed(f) {
		return api.ErrArg
	}
	m.slots[f].pins++
	return api.OK
}

func (m *model) unpin(f int) api.Errno {
	if !m.needed(f) {
		return api.ErrArg
	}
	s := &m.slots[f]
	if s.pins--; s.pins == 0 && (s.has == "HEAD" || s.has == "FORGOTTEN") {
		s.clear()
	}
	return api.OK
}

func (m *model) forget(blocks []int) {
	for i := range m.slots {
		s := &m.slots[i]
		if s.has != "BLOCK" || !slices.Contains(blocks, s.block) {
			continue
		}
		if s.pins == 0 {
			s.clear()
		} else {
			s.has = "FORGOTTEN"
		}
	}
}

func (m *model) part(l []gather.Piece) (complex128, api.Errno) {
	var sum [2]float64
	place := 0
	for _, x := range l {
		if x.Off < 0 || x.Len < 0 || x.Off+x.Len > 256 || !m.needed(x.Frame) {
			return 0, api.ErrArg
		}
		s := m.slots[x.Frame]
		part := sumsOf(s.text[x.Off : x.Off+x.Len])
		if x.Off == 0 && x.Len == s.n {
			part = s.part
		}
		for i := range part {
			sum[(place+i)%2] += part[i]
		}
		place += x.Len
	}
	return complex(sum[0], sum[1]), api.OK
}

// pair is a pool, its kernel, and their model.
type pair struct {
	*testing.T
	rnd *rand.Rand
	k   *kern.Kernel
	p   *Pool
	m   *model
}

// same compares what both told.
func (x pair) same(what string, got, want any, gotError, wantError api.Errno) {
	x.Helper()
	if got != want || gotError != wantError {
		x.Fatalf("%s: %v, %d; not %v, %d", what, got, gotError, want, wantError)
	}
}

// step does a thing by chance to both.
func (x pair) step() {
	frame := x.rnd.Intn(len(x.m.slots)+2) - 1
	block := x.rnd.Intn(7)
	if x.rnd.Intn(12) == 0 {
		block = x.rnd.Intn(20) - 2
	}
	switch x.rnd.Intn(10) {
	case 0, 1:
		n, even, odd := x.rnd.Intn(262)-2, x.rnd.Intn(9000), x.rnd.Intn(9000)
		f, e := x.p.Get(block, n, complex(float64(even), float64(odd)))
		want, wantError := x.m.get(block, n, float64(even), float64(odd))
		x.same(fmt.Sprintf("Get(%d, %d)", block, n), f, want, e, wantError)
	case 2:
		b := filled(byte(x.rnd.Intn(256)), x.rnd.Intn(260))
		f, e := x.p.Head(b)
		want, wantError := x.m.head(b)
		x.same(fmt.Sprintf("Head of %d bytes", len(b)), f, want, e, wantError)
	case 3:
		x.same(fmt.Sprintf("Pin(%d)", frame), 0, 0, x.p.Pin(frame), x.m.pin(frame))
	case 4, 5, 6:
		x.same(fmt.Sprintf("Unpin(%d)", frame), 0, 0, x.p.Unpin(frame), x.m.unpin(frame))
	case 7:
		if x.rnd.Intn(2) == 0 {
			blocks := []int{block, x.rnd.Intn(12), block}[:x.rnd.Intn(4)]
			x.p.Forget(blocks)
			x.m.forget(blocks)
		}
	case 8:
		x.parts()
	case 9:
		x.outside()
	}
}

// parts asks both for a part.
func (x pair) parts() {
	var l []gather.Piece
	for range x.rnd.Intn(5) {
		f := x.rnd.Intn(len(x.m.slots))
		if !x.m.needed(f) && x.rnd.Intn(8) != 0 {
			continue
		}
		piece := gather.Piece{Frame: f, Len: x.m.slots[f].n}
		if x.rnd.Intn(2) == 0 {
			piece.Off = x.rnd.Intn(257)
			piece.Len = x.rnd.Intn(258 - piece.Off)
		}
		l = append(l, piece)
	}
	got, e := x.p.Part(l)
	want, wantError := x.m.part(l)
	x.same(fmt.Sprintf("Part(%v)", l), got, want, e, wantError)
}

// outside does what doesn't go by the pool: transfers, writes, and the power.
func (x pair) outside() {
	x.Helper()
	switch x.rnd.Intn(5) {
	case 0:
		f := x.rnd.Intn(len(x.m.slots))
		if _, e := x.k.Call(kern.Call{Op: 11, Env: 1, List: []gather.Piece{{Frame: f, Len: 1}}}); e == api.OK {
			x.m.slots[f].holds++
			x.m.waits = append(x.m.waits, f)
		}
	case 1, 2:
		if len(x.m.waits) > 0 {
			depart(x.T, x.k)
			x.m.slots[x.m.waits[0]].holds--
			x.m.waits = x.m.waits[1:]
		}
	case 3:
		b := x.rnd.Intn(12)
		text := filled(byte(x.rnd.Intn(256)), 256)
		if x.m.power {
			call(x.T, x.k, kern.Call{Op: 7, Env: 1, A: b, Bytes: text})
			copy(x.m.blocks[b][:], text)
		}
	case 4:
		if x.m.power = !x.m.power; x.m.power {
			x.k.Disk().Revive(1 << 20)
		} else {
			x.k.Disk().Cut()
		}
	}
}

// compare looks at all that both tell of themselves.
func (x pair) compare() {
	x.Helper()
	x.same("Fills", x.p.Fills(), x.m.fills, 0, 0)
	for b := -2; b < 18; b++ {
		x.same(fmt.Sprintf("Has(%d)", b), x.p.Has(b), x.m.blockAt(b) >= 0, 0, 0)
	}
	for f, s := range x.m.slots {
		x.same(fmt.Sprintf("Pins(%d)", f), x.p.Pins(f), s.pins, 0, 0)
		if s.pins > 0 {
			checkFrame(x.T, x.k, f, s.text[:])
		}
	}
}

func TestP134AgainstTheModel(t *testing.T) {
	for seed := range int64(400) {
		x := pair{T: t, rnd: rand.New(rand.NewSource(seed))}
		n := 1 + x.rnd.Intn(6)
		x.k, x.p = made(t, n)
		x.m = modelOf(n)
		for range 300 {
			x.step()
			x.compare()
		}
	}
}
