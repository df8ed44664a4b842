// Package sums is layer 1: the sum that internet headers have, in parts that can be put together.
package sums

import (
	"math"

	"pantler/api"
)

const (
	maxBytes = 1 << 24 // bytes of which a part is told
	maxHalf  = 1 << 40 // the greatest real or imaginary part
	radix    = 65536
	allOnes  = radix - 1 // what bytes with their sum fold to
)

// Part tells the part of b: the sums of its bytes at even and at odd places.
func Part(b []byte) (complex128, api.Errno) {
	if len(b) > maxBytes {
		return 0, api.ErrLong
	}
	var z complex128
	for i := 1; i < len(b); i += 2 {
		z += complex(float64(b[i-1]), float64(b[i]))
	}
	if len(b)%2 == 1 {
		z += complex(float64(b[len(b)-1]), 0)
	}
	return z, api.OK
}

// Turn lets the real and the imaginary part change places: behind an odd number of bytes even places become odd ones.
// It doesn't multiply the conjugate by the imaginary unit, as that spoils what is infinite.
func Turn(z complex128) complex128 {
	return complex(imag(z), real(z))
}

// Join tells the part of length bytes whose part is a, and of bytes behind them whose part is b.
func Join(a complex128, length int, b complex128) (complex128, api.Errno) {
	if length < 0 || !mayBe(a) || !mayBe(b) {
		return 0, api.ErrArg
	}
	if length%2 == 1 {
		b = Turn(b)
	}
	z := a + b
	if !mayBe(z) {
		return 0, api.ErrArg
	}
	return z, api.OK
}

// Word tells the part of the two bytes of w, the higher one first.
func Word(w uint16) complex128 {
	return complex(float64(w>>8), float64(w&255))
}

// Fold tells the word that z comes to, when what lies above 16 bits is added below again and again.
func Fold(z complex128) (uint16, api.Errno) {
	if !mayBe(z) {
		return 0, api.ErrArg
	}
	n := 256*int64(real(z)) + int64(imag(z))
	for n > allOnes {
		n = n%radix + n/radix
	}
	return uint16(n), api.OK
}

// Sum tells what stands in the sum's place of bytes that have the part z with 0 there.
func Sum(z complex128) (uint16, api.Errno) {
	n, e := Fold(z)
	if e != api.OK {
		return 0, e
	}
	return allOnes - n, api.OK
}

// Good tells whether b, with its sum in it, fits that sum.
func Good(b []byte) bool {
	z, e := Part(b)
	if e != api.OK {
		return false
	}
	n, e := Fold(z)
	return e == api.OK && n == allOnes
}

// mayBe tells whether z is a part that may be.
func mayBe(z complex128) bool {
	return whole(real(z)) && whole(imag(z))
}

// whole tells whether x is a whole number from 0 to maxHalf. (Of what is no number no comparison holds.)
func whole(x float64) bool {
	return x >= 0 && x <= maxHalf && x == math.Floor(x)
}
