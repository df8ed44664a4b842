package ring

import (
	"math"
	"strconv"
	"testing"

	"pantler/api"
)

// made tells a new ring of that room.
func made[T any](t *testing.T, room int) *Ring[T] {
	t.Helper()
	r, e := New[T](room)
	if r == nil || e != api.OK {
		t.Fatalf("New(%d): %v, %d", room, r, e)
	}
	return r
}

// putAll puts things that all find room.
func putAll[T any](t *testing.T, r *Ring[T], things ...T) {
	t.Helper()
	for _, x := range things {
		want := r.Next()
		if ticket, e := r.Put(x); ticket != want || e != api.OK {
			t.Fatalf("Put(%v): %d, %d; not %d", x, ticket, e, want)
		}
	}
}

// checkTake takes one.
func checkTake[T comparable](t *testing.T, r *Ring[T], want T, f api.Errno) {
	t.Helper()
	if x, e := r.Take(); x != want || e != f {
		t.Fatalf("Take: %v, %d; not %v, %d", x, e, want, f)
	}
}

// checkAt asks for the one with that ticket.
func checkAt[T comparable](t *testing.T, r *Ring[T], ticket int, want T, f api.Errno) {
	t.Helper()
	if x, e := r.At(ticket); x != want || e != f {
		t.Fatalf("At(%d): %v, %d; not %v, %d", ticket, x, e, want, f)
	}
}

// checkCounts asks for the numbers that a ring tells.
func checkCounts[T any](t *testing.T, r *Ring[T], length, room, next int) {
	t.Helper()
	if r.Len() != length || r.Room() != room || r.Next() != next {
		t.Fatalf("%d are there, %d more may be put, the next is %d; not %d, %d, %d", r.Len(), r.Room(), r.Next(), length, room, next)
	}
}

func TestP41New(t *testing.T) {
	for room := 1; room <= 32; room++ {
		r := made[int](t, room)
		checkCounts(t, r, 0, room, 0)
		checkAt(t, r, 0, 0, api.ErrEmpty)
		checkTake(t, r, 0, api.ErrEmpty)
	}
}

func TestP41NewErrors(t *testing.T) {
	for _, room := range []int{0, -1, -32, 33, 34, 64, 1 << 20, 1<<32 + 1, math.MaxInt32, math.MaxInt, math.MinInt32, math.MinInt} {
		if r, e := New[int](room); r != nil || e != api.ErrArg {
			t.Errorf("New(%d): %v, %d", room, r, e)
		}
		if r, e := New[string](room); r != nil || e != api.ErrArg {
			t.Errorf("New(%d) of texts: %v, %d", room, r, e)
		}
	}
}

func TestP41Example(t *testing.T) {
	r := made[int](t, 1)
	if ticket, e := r.Put(5); ticket != 0 || e != api.OK {
		t.Errorf("Put(5): %d, %d", ticket, e)
	}
	if ticket, e := r.Put(6); ticket != 0 || e != api.ErrFull {
		t.Errorf("Put(6): %d, %d", ticket, e)
	}
	checkTake(t, r, 5, api.OK)
	if ticket, e := r.Put(7); ticket != 1 || e != api.OK {
		t.Errorf("Put(7): %d, %d", ticket, e)
	}
}

func TestP41PutUpToTheRoom(t *testing.T) {
	for room := 1; room <= 32; room++ {
		r := made[int](t, room)
		for i := range room {
			if ticket, e := r.Put(100 + i); ticket != i || e != api.OK {
				t.Fatalf("room %d: Put %d: %d, %d", room, i, ticket, e)
			}
			checkCounts(t, r, i+1, room-i-1, i+1)
		}
		// What finds no room changes nothing, however often it is put.
		for range 3 {
			if ticket, e := r.Put(-1); ticket != 0 || e != api.ErrFull {
				t.Fatalf("room %d: Put into the full ring: %d, %d", room, ticket, e)
			}
			checkCounts(t, r, room, 0, room)
		}
		for i := range room {
			checkAt(t, r, i, 100+i, api.OK)
		}
		for i := range room {
			checkTake(t, r, 100+i, api.OK)
			checkCounts(t, r, room-i-1, i+1, room)
		}
	}
}

func TestP41PutWhenFullBehindAFewTaken(t *testing.T) {
	r := made[int](t, 3)
	putAll(t, r, 1, 2, 3)
	checkTake(t, r, 1, api.OK)
	checkTake(t, r, 2, api.OK)
	putAll(t, r, 4, 5)
	if ticket, e := r.Put(6); ticket != 0 || e != api.ErrFull {
		t.Errorf("Put(6): %d, %d", ticket, e)
	}
	checkCounts(t, r, 3, 0, 5)
	for i, want := range []int{3, 4, 5} {
		checkAt(t, r, 2+i, want, api.OK)
	}
}

func TestP41TakeOfNone(t *testing.T) {
	r := made[string](t, 2)
	putAll(t, r, "a", "b")
	checkTake(t, r, "a", api.OK)
	checkTake(t, r, "b", api.OK)
	for range 3 {
		checkTake(t, r, "", api.ErrEmpty)
		checkCounts(t, r, 0, 2, 2)
	}
	putAll(t, r, "c")
	checkTake(t, r, "c", api.OK)
	checkCounts(t, r, 0, 2, 3)
}

func TestP41At(t *testing.T) {
	r := made[string](t, 3)
	putAll(t, r, "a", "b", "c")
	checkTake(t, r, "a", api.OK)
	putAll(t, r, "d")
	// It stays: it is told again.
	for range 2 {
		checkAt(t, r, 1, "b", api.OK)
		checkAt(t, r, 2, "c", api.OK)
		checkAt(t, r, 3, "d", api.OK)
		checkCounts(t, r, 3, 0, 4)
	}
}

func TestP41AtErrors(t *testing.T) {
	r := made[string](t, 3)
	putAll(t, r, "a", "b", "c")
	checkTake(t, r, "a", api.OK)
	checkTake(t, r, "b", api.OK)
	putAll(t, r, "d")
	// 2 and 3 are there; 0 and 6 would stand where 3 stands, -1, 5 and 8 where 2 does.
	for _, ticket := range []int{-1, -2, -3, -4, 0, 1, 4, 5, 6, 8, 9, 1 << 32, 1<<32 + 2, math.MaxInt - 1, math.MaxInt, math.MinInt, math.MinInt + 1} {
		checkAt(t, r, ticket, "", api.ErrEmpty)
	}
	checkCounts(t, r, 2, 1, 4)
	checkTake(t, r, "c", api.OK)
	checkTake(t, r, "d", api.OK)
	for ticket := -4; ticket < 9; ticket++ {
		checkAt(t, r, ticket, "", api.ErrEmpty)
	}
}

func TestP41OfNil(t *testing.T) {
	var r *Ring[string]
	if ticket, e := r.Put("a"); ticket != 0 || e != api.ErrNil {
		t.Errorf("Put: %d, %d", ticket, e)
	}
	checkTake(t, r, "", api.ErrNil)
	for _, ticket := range []int{0, 1, -1, math.MaxInt, math.MinInt} {
		checkAt(t, r, ticket, "", api.ErrNil)
	}
	checkCounts(t, r, 0, 0, 0)
}

// Nothing is said of what a ring that New didn't make answers, but that it does.
func TestP41OfAZeroValueNothingPanics(t *testing.T) {
	var r Ring[int]
	r.Put(1)
	r.Take()
	for _, ticket := range []int{0, 1, -1, math.MaxInt, math.MinInt} {
		r.At(ticket)
	}
	r.Len()
	r.Room()
	r.Next()
}

// point is a thing of more than one field.
type point struct{ x, y int }

func TestP41OfThingsOfOtherKinds(t *testing.T) {
	points := made[point](t, 2)
	putAll(t, points, point{1, 2}, point{})
	checkTake(t, points, point{1, 2}, api.OK)
	checkTake(t, points, point{}, api.OK)
	checkTake(t, points, point{}, api.ErrEmpty)

	one := 1
	pointers := made[*int](t, 2)
	putAll(t, pointers, nil, &one)
	checkTake(t, pointers, nil, api.OK)
	checkTake(t, pointers, &one, api.OK)
	checkTake(t, pointers, nil, api.ErrEmpty)

	lists := made[[]byte](t, 2)
	putAll(t, lists, []byte{1}, nil)
	if b, e := lists.At(0); len(b) != 1 || b[0] != 1 || e != api.OK {
		t.Errorf("At: %v, %d", b, e)
	}
	if b, e := lists.At(2); b != nil || e != api.ErrEmpty {
		t.Errorf("At: %v, %d", b, e)
	}

	nothings := made[struct{}](t, 2)
	putAll(t, nothings, struct{}{}, struct{}{})
	if _, e := nothings.Put(struct{}{}); e != api.ErrFull {
		t.Errorf("Put: %d", e)
	}
}

func TestP41RingsStandApart(t *testing.T) {
	r, s := made[int](t, 2), made[int](t, 2)
	putAll(t, r, 1, 2)
	checkCounts(t, s, 0, 2, 0)
	putAll(t, s, 3)
	checkTake(t, r, 1, api.OK)
	checkTake(t, s, 3, api.OK)
	checkCounts(t, r, 1, 1, 2)
}

func TestP41WhoHoldsOneSeesWhatIsDone(t *testing.T) {
	r := made[int](t, 2)
	other := r
	putAll(t, other, 4)
	checkTake(t, r, 4, api.OK)
	checkTake(t, other, 0, api.ErrEmpty)
}

// The memory of what was taken could never be freed while the ring lives.
func TestP41WhatWasTakenIsntKept(t *testing.T) {
	r := made[*int](t, 3)
	for i := range 5 {
		x := i
		putAll(t, r, &x, &x)
		r.Take()
		r.Take()
		for place, kept := range r.things {
			if kept != nil {
				t.Fatalf("round %d: place %d keeps %d", i, place, *kept)
			}
		}
	}
}

// model is a line without bound, held beside a ring: it keeps all that was ever put.
type model struct {
	room, taken int
	all         []string
}

// check holds all that the ring tells against the model.
func (m *model) check(t *testing.T, r *Ring[string]) {
	t.Helper()
	length := len(m.all) - m.taken
	checkCounts(t, r, length, m.room-length, len(m.all))
	for ticket := m.taken - m.room - 2; ticket < len(m.all)+m.room+2; ticket++ {
		if ticket < m.taken || ticket >= len(m.all) {
			checkAt(t, r, ticket, "", api.ErrEmpty)
			continue
		}
		checkAt(t, r, ticket, m.all[ticket], api.OK)
	}
}

// put puts x into both.
func (m *model) put(t *testing.T, r *Ring[string], x string) {
	t.Helper()
	if len(m.all)-m.taken == m.room {
		if ticket, e := r.Put(x); ticket != 0 || e != api.ErrFull {
			t.Fatalf("Put(%s) into the full ring: %d, %d", x, ticket, e)
		}
		return
	}
	if ticket, e := r.Put(x); ticket != len(m.all) || e != api.OK {
		t.Fatalf("Put(%s): %d, %d; not %d", x, ticket, e, len(m.all))
	}
	m.all = append(m.all, x)
}

// take takes one from both.
func (m *model) take(t *testing.T, r *Ring[string]) {
	t.Helper()
	if m.taken == len(m.all) {
		checkTake(t, r, "", api.ErrEmpty)
		return
	}
	checkTake(t, r, m.all[m.taken], api.OK)
	m.taken++
}

func TestP42InTheOrderInWhichItWasPut(t *testing.T) {
	seed := uint64(7)
	for room := 1; room <= 32; room++ {
		r, m := made[string](t, room), &model{room: room}
		for step := range 600 {
			seed = seed*6364136223846793005 + 1442695040888963407
			// Whole stretches lean to one side, so that each ring gets full and gets empty.
			if int(seed>>33%8) < 2+step/100%2*4 {
				m.take(t, r)
			} else {
				m.put(t, r, strconv.Itoa(step))
			}
			m.check(t, r)
		}
		if len(m.all) < 3*room {
			t.Errorf("room %d: only %d were put", room, len(m.all))
		}
	}
}

func TestP42EachOnce(t *testing.T) {
	for room := 1; room <= 32; room++ {
		for filled := 1; filled <= room; filled++ {
			r := made[int](t, room)
			want, next := 0, 0
			// So often that the line goes round more than once, wherever it begins.
			for range 2*room/filled + 3 {
				for range filled {
					putAll(t, r, next)
					next++
				}
				for range filled {
					checkTake(t, r, want, api.OK)
					want++
				}
				checkTake(t, r, 0, api.ErrEmpty)
			}
			checkCounts(t, r, 0, room, next)
		}
	}
}
