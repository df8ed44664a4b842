package kern

import (
	"bytes"
	"slices"
	"testing"

	"pantler/api"
	"pantler/filter"
	"pantler/gather"
)

// dice tells numbers that look thrown, the same ones each time.
type dice uint64

// roll tells one from 0 to n - 1.
func (d *dice) roll(n int) int {
	*d = *d*6364136223846793005 + 1442695040888963407
	return int(uint64(*d) >> 33 % uint64(n))
}

// modelFrame is a frame of the model.
type modelFrame struct {
	owner int
	text  [256]byte
}

// modelFilter is a filter of the model, in whose list all filters stay; one that went is of environment 0.
type modelFilter struct {
	env  int
	prog []filter.Op
}

// modelTransfer is a transfer of the model, with the bytes that its frames had when it was made.
type modelTransfer struct {
	env    int
	frames []int
	text   []byte
}

// model is a kernel by the chapter's words: lists without bound, of which the beginning is gone.
type model struct {
	frames    []modelFrame
	blocks    [][]byte
	durable   [][]byte
	line      []int // the blocks of the writes that wait
	filters   []modelFilter
	packets   [3][][]byte
	transfers []modelTransfer
	done      int
}

// modelOf tells the model of a new kernel.
func modelOf(frames, blocks int) *model {
	m := &model{frames: make([]modelFrame, frames), blocks: make([][]byte, blocks), durable: make([][]byte, blocks)}
	for i := range m.blocks {
		m.blocks[i], m.durable[i] = make([]byte, 256), make([]byte, 256)
	}
	return m
}

// holds tells how often the frame stands in the lists of transfers that aren't done.
func (m *model) holds(f int) int {
	n := 0
	for _, x := range m.transfers[m.done:] {
		for _, held := range x.frames {
			if held == f {
				n++
			}
		}
	}
	return n
}

// owns tells what stands against env's asking for the frame.
func (m *model) owns(env, f int) api.Errno {
	switch {
	case f < 0 || f >= len(m.frames):
		return api.ErrArg
	case m.frames[f].owner != env:
		return api.ErrOwner
	}
	return api.OK
}

// idle tells what stands against env's changing the frame, where what it wants of it may be.
func (m *model) idle(env, f int, may bool) api.Errno {
	switch e := m.owns(env, f); {
	case e != api.OK:
		return e
	case !may:
		return api.ErrArg
	case m.holds(f) > 0:
		return api.ErrBusy
	}
	return api.OK
}

// blockOf tells who owns the block, or what stands against it.
func (m *model) blockOf(env, block int) api.Errno {
	n := len(m.blocks)
	switch {
	case block < 0 || block >= n:
		return api.ErrBlock
	case env == 1 && block >= n-n/4 || env == 2 && block < n-n/4:
		return api.ErrOwner
	}
	return api.OK
}

// frameCall tells what is answered to calls 1 to 5.
func (m *model) frameCall(c Call) (a Answer, e api.Errno) {
	switch c.Op {
	case 1:
		for f := range m.frames {
			if m.frames[f].owner == 0 {
				m.frames[f].owner = c.Env
				return Answer{N: f}, api.OK
			}
		}
		return a, api.ErrFull
	case 2:
		if e = m.idle(c.Env, c.A, true); e == api.OK {
			m.frames[c.A] = modelFrame{}
		}
	case 3:
		if e = m.idle(c.Env, c.A, c.B == 1 || c.B == 2); e == api.OK {
			m.frames[c.A].owner = c.B
		}
	case 4:
		if e = m.owns(c.Env, c.A); e == api.OK {
			if c.B < 0 || c.C < 0 || c.B+c.C > 256 {
				return a, api.ErrArg
			}
			a.Bytes = slices.Clone(m.frames[c.A].text[c.B : c.B+c.C])
		}
	case 5:
		if e = m.idle(c.Env, c.A, c.B >= 0 && c.B+len(c.Bytes) <= 256); e == api.OK {
			copy(m.frames[c.A].text[c.B:], c.Bytes)
		}
	}
	return a, e
}

// blockCall tells what is answered to calls 6 to 8.
func (m *model) blockCall(c Call) (a Answer, e api.Errno) {
	if c.Op == 8 {
		for i := range m.blocks {
			m.durable[i] = m.blocks[i]
		}
		m.line = nil
		return a, api.OK
	}
	if e = m.blockOf(c.Env, c.A); e != api.OK {
		return a, e
	}
	if c.Op == 6 {
		return Answer{Bytes: slices.Clone(m.blocks[c.A])}, api.OK
	}
	if len(c.Bytes) != 256 {
		return a, api.ErrArg
	}
	m.blocks[c.A] = slices.Clone(c.Bytes)
	m.line = append(m.line, c.A)
	return a, api.OK
}

// filterCall tells what is answered to calls 9 and 10.
func (m *model) filterCall(c Call) (Answer, api.Errno) {
	if c.Op == 10 {
		if c.A < 0 || c.A >= len(m.filters) || m.filters[c.A].env != c.Env {
			return Answer{}, api.ErrEmpty
		}
		m.filters[c.A].env = 0
		return Answer{}, api.OK
	}
	there := 0
	for _, f := range m.filters {
		if f.env != 0 {
			there++
		}
	}
	if there == 8 {
		return Answer{}, api.ErrFull
	}
	if e := filter.Check(c.Prog); e != api.OK {
		return Answer{}, e
	}
	m.filters = append(m.filters, modelFilter{c.Env, slices.Clone(c.Prog)})
	return Answer{N: len(m.filters) - 1}, api.OK
}

// transferError tells what stands against a transfer.
func (m *model) transferError(c Call) api.Errno {
	if len(m.transfers)-m.done == 16 {
		return api.ErrFull
	}
	all, others := 0, 0
	for _, p := range c.List {
		if p.Len < 1 || p.Off < 0 || p.Off+p.Len > 256 || p.Frame < 0 || p.Frame >= len(m.frames) {
			return api.ErrArg
		}
		all += p.Len
		if m.frames[p.Frame].owner != c.Env {
			others++
		}
	}
	switch {
	case len(c.List) == 0:
		return api.ErrArg
	case len(c.List) > 16 || all > 1024:
		return api.ErrLong
	case others > 0:
		return api.ErrOwner
	}
	return api.OK
}

// ringCall tells what is answered to calls 11 to 13.
func (m *model) ringCall(c Call) (Answer, api.Errno) {
	switch c.Op {
	case 11:
		if e := m.transferError(c); e != api.OK {
			return Answer{}, e
		}
		x := modelTransfer{env: c.Env}
		for _, p := range c.List {
			x.frames = append(x.frames, p.Frame)
			x.text = append(x.text, m.frames[p.Frame].text[p.Off:p.Off+p.Len]...)
		}
		m.transfers = append(m.transfers, x)
		return Answer{N: len(m.transfers) - 1}, api.OK
	case 12:
		line := m.packets[c.Env]
		if len(line) == 0 {
			return Answer{}, api.ErrEmpty
		}
		m.packets[c.Env] = line[1:]
		return Answer{Bytes: line[0]}, api.OK
	}
	return Answer{N: m.done}, api.OK
}

// call tells what is answered.
func (m *model) call(c Call) (Answer, api.Errno) {
	switch {
	case c.Env != 1 && c.Env != 2 || c.Op < 1 || c.Op > 13:
		return Answer{}, api.ErrArg
	case c.Op <= 5:
		return m.frameCall(c)
	case c.Op <= 8:
		return m.blockCall(c)
	case c.Op <= 10:
		return m.filterCall(c)
	}
	return m.ringCall(c)
}

// arrive tells what is answered to a packet.
func (m *model) arrive(packet []byte) (int, api.Errno) {
	if len(packet) > 1024 {
		return 0, api.ErrLong
	}
	for _, f := range m.filters {
		if f.env == 0 {
			continue
		}
		if n, _ := filter.Run(f.prog, packet); n == 0 {
			continue
		}
		if len(m.packets[f.env]) == 16 {
			return 0, api.ErrFull
		}
		m.packets[f.env] = append(m.packets[f.env], slices.Clone(packet))
		return f.env, api.OK
	}
	return 0, api.ErrEmpty
}

// depart tells the transfer that departs.
func (m *model) depart() ([]byte, int, api.Errno) {
	if m.done == len(m.transfers) {
		return nil, 0, api.ErrEmpty
	}
	x := m.transfers[m.done]
	m.done++
	return x.text, x.env, api.OK
}

// text throws up to most bytes.
func (d *dice) text(most int) []byte {
	return filled(byte(d.roll(256)), d.roll(most+1))
}

// list throws a list of pieces; now and then one can't be.
func (d *dice) list(frames int) []gather.Piece {
	var l []gather.Piece
	only := d.roll(frames)
	for range 1 + d.roll(d.roll(18)+1) {
		p := gather.Piece{Frame: only, Off: d.roll(200), Len: 1 + d.roll(56)}
		switch d.roll(60) {
		case 0:
			p.Frame = d.roll(frames+2) - 1
		case 1:
			p.Len = d.roll(259) - 1
		case 2:
			p.Off = d.roll(259) - 1
		}
		l = append(l, p)
	}
	if d.roll(40) == 0 {
		return nil
	}
	return l
}

// program throws one of programs that want some packets.
func (d *dice) program() []filter.Op {
	switch d.roll(10) {
	case 0:
		return []filter.Op{{Code: d.roll(10)}}
	case 1:
		return []filter.Op{{Code: 0, K: uint32(d.roll(4))}, {Code: 3, K: 1}, {Code: 8}}
	}
	return beginsWith(byte('a' + d.roll(6)))
}

// call throws a call of what is asked often enough to be met.
func (d *dice) call(m *model) Call {
	c := Call{Op: 1 + d.roll(13), Env: 1 + d.roll(2), A: d.roll(len(m.frames)+2) - 1, B: d.roll(4), C: d.roll(40)}
	switch c.Op {
	case 4, 5:
		if d.roll(4) == 0 {
			c.B, c.C = d.roll(259)-1, d.roll(259)-1
		}
		c.Bytes = d.text(20)
	case 6, 7:
		c.A = d.roll(len(m.blocks)+2) - 1
		c.Bytes = filled(byte(d.roll(256)), 256-d.roll(10)/9)
	case 9:
		c.Prog = d.program()
	case 10:
		c.A = len(m.filters) - d.roll(12)
	case 11:
		c.List = d.list(len(m.frames))
	}
	switch d.roll(300) {
	case 0:
		c.Env = d.roll(6) - 1
	case 1:
		c.Op = d.roll(20) - 2
	}
	return c
}

// checkState holds all that is told of a kernel against the model.
func checkState(t *testing.T, k *Kernel, m *model) {
	t.Helper()
	free := 0
	for f := range m.frames {
		owner := m.frames[f].owner
		if k.Table().Owner(f) != owner || k.Owned(1, f) != (owner == 1) || k.Owned(2, f) != (owner == 2) || k.Table().Holds(f) != m.holds(f) {
			t.Fatalf("frame %d: of %d, %d holds; not %d, %d", f, k.Table().Owner(f), k.Table().Holds(f), owner, m.holds(f))
		}
		if owner == 0 {
			free++
			continue
		}
		if b, e := k.Table().Read(owner, f, 0, 256); !bytes.Equal(b, m.frames[f].text[:]) || e != api.OK {
			t.Fatalf("frame %d: %q, %d; not %q", f, b, e, m.frames[f].text)
		}
	}
	if k.Table().FreeCount() != free || k.Disk().Waits() != len(m.line) {
		t.Fatalf("%d are free, %d wait; not %d, %d", k.Table().FreeCount(), k.Disk().Waits(), free, len(m.line))
	}
	for block, text := range k.Disk().Image() {
		if text != string(m.durable[block]) {
			t.Fatalf("block %d is %q; not %q", block, text, m.durable[block])
		}
		for env := 1; env <= 2; env++ {
			if m.blockOf(env, block) != api.OK {
				continue
			}
			if b, e := k.Disk().Read(env, block); !bytes.Equal(b, m.blocks[block]) || e != api.OK {
				t.Fatalf("block %d: %q, %d; not %q", block, b, e, m.blocks[block])
			}
		}
	}
}

// met counts how often something was met.
type met map[[2]int]int

// step does one thing with the kernel, and the same with the model.
func step(t *testing.T, d *dice, k *Kernel, m *model, seen met) {
	t.Helper()
	// Few transfers depart, so that their ring is full now and then.
	switch d.roll(40) {
	case 0:
		b, env, e := k.Depart()
		text, n, want := m.depart()
		if !bytes.Equal(b, text) || env != n || e != want {
			t.Fatalf("Depart: %q, %d, %d; not %q, %d, %d", b, env, e, text, n, want)
		}
		seen[[2]int{-1, int(e)}]++
	case 1, 2, 3, 4, 5, 6, 7, 8:
		packet := append([]byte{byte('a' + d.roll(8))}, d.text(8)...)
		if d.roll(50) == 0 {
			packet = d.text(2048)
		}
		n, e := k.Arrive(packet)
		if env, want := m.arrive(packet); n != env || e != want {
			t.Fatalf("Arrive(%q): %d, %d; not %d, %d", packet, n, e, env, want)
		}
		seen[[2]int{-2, int(e)}]++
	default:
		c := d.call(m)
		a, e := k.Call(c)
		want, f := m.call(c)
		if a.N != want.N || !bytes.Equal(a.Bytes, want.Bytes) || e != f {
			t.Fatalf("Call(%+v): %+v, %d; not %+v, %d", c, a, e, want, f)
		}
		seen[[2]int{c.Op, int(e)}]++
	}
}

func TestP91P92P93AgainstTheModel(t *testing.T) {
	seen := met{}
	for run := range 60 {
		d := dice(run)
		frames, blocks := 1+d.roll(8), 4+d.roll(12)
		k, m := made(t, frames, blocks), modelOf(frames, blocks)
		for range 2000 {
			step(t, &d, k, m, seen)
			checkState(t, k, m)
		}
	}
	for _, c := range []struct{ op, e int }{
		{1, 0}, {1, 10}, {2, 0}, {2, 1}, {2, 20}, {2, 21}, {3, 0}, {3, 1}, {3, 20}, {3, 21}, {4, 0}, {4, 1}, {4, 20}, {5, 0}, {5, 1}, {5, 20}, {5, 21},
		{6, 0}, {6, 20}, {6, 31}, {7, 0}, {7, 1}, {7, 20}, {7, 31}, {8, 0}, {9, 0}, {9, 10}, {9, 40}, {10, 0}, {10, 11},
		{11, 0}, {11, 1}, {11, 2}, {11, 10}, {11, 20}, {12, 0}, {12, 11}, {13, 0}, {0, 1}, {14, 1}, {-1, 0}, {-1, 11}, {-2, 0}, {-2, 2}, {-2, 10}, {-2, 11},
	} {
		if seen[[2]int{c.op, c.e}] < 5 {
			t.Errorf("%d with error %d was met %d times alone", c.op, c.e, seen[[2]int{c.op, c.e}])
		}
	}
}

// P9.3: what departs is what its frames had when the transfer was made, whatever both environments try on them till then.
func TestP93WhatDepartsIsAsItWasWhenMade(t *testing.T) {
	d := dice(93)
	for range 300 {
		k := owning(t, 1, 2, 1, 2)
		var want [][]byte
		for ticket := range 16 {
			env := 1 + d.roll(2)
			list := []gather.Piece{{Frame: env - 1, Off: d.roll(200), Len: 56}, {Frame: env + 1, Len: 1 + d.roll(9)}}
			var text []byte
			for _, p := range list {
				b, _ := k.Call(Call{Op: 4, Env: env, A: p.Frame, B: p.Off, C: p.Len})
				text = append(text, b.Bytes...)
			}
			want = append(want, text)
			checkN(t, k, Call{Op: 11, Env: env, List: list}, ticket)
			for range 10 {
				c := Call{Op: []int{2, 3, 5}[d.roll(3)], Env: 1 + d.roll(2), A: d.roll(4), B: 1, Bytes: d.text(9)}
				held := k.Table().Holds(c.A) > 0 && k.Owned(c.Env, c.A)
				if _, e := k.Call(c); held && e != api.ErrBusy {
					t.Fatalf("Call(%+v): %d", c, e)
				}
				// Both frames of an environment are there again for the next one, unless they are held by one of it.
				remake(t, k)
			}
		}
		for _, text := range want {
			b, env, e := k.Depart()
			if !bytes.Equal(b, text) || env < 1 || e != api.OK {
				t.Fatalf("Depart: %q, %d, %d; not %q", b, env, e, text)
			}
		}
		checkHolds(t, k, 0, 0, 0, 0)
	}
}

// remake lets environment 1 own the frames 0 and 2, and 2 the others, where somebody else has them, or nobody.
func remake(t *testing.T, k *Kernel) {
	t.Helper()
	for f := range 4 {
		owner := 1 + f%2
		switch k.Table().Owner(f) {
		case 0:
			checkN(t, k, Call{Op: 1, Env: owner}, f)
		case 3 - owner:
			checkDone(t, k, Call{Op: 3, Env: 3 - owner, A: f, B: owner})
		}
	}
}

// has is what an environment has, as far as calls tell it.
type has struct {
	frames, blocks [16]string
	filters        [8]int
}

// hasOf tells what env has: the bytes of its frames and of its blocks, and how many packets of each kind would be its own.
func hasOf(t *testing.T, k *Kernel, env int) has {
	t.Helper()
	var h has
	for i := range 16 {
		if a, e := k.Call(Call{Op: 4, Env: env, A: i, C: 256}); e == api.OK {
			h.frames[i] = "its own: " + string(a.Bytes)
		}
		if a, e := k.Call(Call{Op: 6, Env: env, A: i}); e == api.OK {
			h.blocks[i] = "its own: " + string(a.Bytes)
		}
	}
	for i := range h.filters {
		if n, e := k.Arrive([]byte{byte('A' + i)}); n == env && e == api.OK {
			h.filters[i]++
			checkBytes(t, k, Call{Op: 12, Env: env}, []byte{byte('A' + i)})
		}
	}
	return h
}

// P9.3: no call of one environment changes a frame, a block or a filter of the other one, but Give.
func TestP93NobodyChangesWhatTheOtherOneHas(t *testing.T) {
	d := dice(39)
	for run := range 100 {
		env := 1 + run%2
		other := 3 - env
		k := owning(t, 1, 2, 1, 2, 0, 0)
		for block := range 16 {
			for of := 1; of <= 2; of++ {
				k.Call(Call{Op: 7, Env: of, A: block, Bytes: filled(byte(block), 256)})
			}
		}
		for i := range 4 {
			checkN(t, k, Call{Op: 9, Env: other, Prog: beginsWith(byte('A' + i))}, i)
		}
		before, well := hasOf(t, k, other), 0
		for range 500 {
			a := d.roll(18) - 1
			c := Call{Op: d.roll(16) - 1, Env: env, A: a, B: d.roll(4), C: d.roll(9), Bytes: make([]byte, 256*d.roll(2)), Prog: all, List: times(1+d.roll(2), gather.Piece{Frame: a, Len: 1})}
			if c.Op == 3 && c.B == other {
				c.B = env
			}
			if _, e := k.Call(c); e == api.OK {
				well++
			}
			if d.roll(50) == 0 {
				k.Depart()
			}
		}
		if hasOf(t, k, other) != before {
			t.Fatalf("what %d has is changed by %d", other, env)
		}
		if well < 50 {
			t.Fatalf("%d calls of %d went well alone", well, env)
		}
	}
}

func TestP93GiveLetsTheOtherOneHaveMore(t *testing.T) {
	for env := 1; env <= 2; env++ {
		other := 3 - env
		k := owning(t, 1, 2)
		before, own := hasOf(t, k, other), hasOf(t, k, env)
		checkDone(t, k, Call{Op: 3, Env: env, A: env - 1, B: other})
		before.frames[env-1] = own.frames[env-1]
		own.frames[env-1] = ""
		if hasOf(t, k, other) != before || hasOf(t, k, env) != own {
			t.Errorf("what %d gave isn't just that frame", env)
		}
	}
}
