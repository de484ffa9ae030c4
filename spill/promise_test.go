package spill

import (
	"strings"
	"testing"

	"spill/api"
)

// zeroWithError: with an error every other result is nothing.
func zeroWithError(t *testing.T, s string, in api.Input, fuel int) {
	t.Helper()
	if n, e := Check(s); e != api.OK && n != 0 {
		t.Errorf("P1: Check(%.80q) = %d, %d", s, n, e)
	}
	if o, e := Run(s, in, fuel); e != api.OK && o != (api.Outcome{}) {
		t.Errorf("P1: Run(%.80q, %v, %d) = %+v, %d", s, in, fuel, o, e)
	}
}

// TestNoPanic: all kinds of texts and numbers; a panic ends the test.
func TestNoPanic(t *testing.T) {
	d := &dice{now: 5}
	numbers := []int{0, 1, 7, 8, 20000, 20001, 65535, 65536, -1, -1 << 63, 1<<63 - 1}
	for n := 0; n < 30000; n++ {
		s := ""
		switch d.throw(3) {
		case 0:
			for length := d.throw(40); length > 0; length-- {
				s += string([]byte{byte(d.throw(256))})
			}
		case 1:
			for length := d.throw(70); length > 0; length-- {
				s += d.of("abAB019.+-*&^#=lLsSj?r><~")
			}
		default:
			s = d.marred(d.marred(d.program("abcABC")))
		}
		in := d.input()
		fuel := d.throw(200)
		if d.throw(3) == 0 {
			in.Args[d.throw(4)] = numbers[d.throw(len(numbers))]
			in.Public[d.throw(8)] = numbers[d.throw(len(numbers))]
			fuel = numbers[d.throw(len(numbers))]
		}
		zeroWithError(t, s, in, fuel)
	}
	for length := 0; length < 300; length++ {
		zeroWithError(t, strings.Repeat("r", length), api.Input{}, 1)
		zeroWithError(t, strings.Repeat("ra..", 80)[:length], api.Input{}, 1)
	}
	zeroWithError(t, strings.Repeat("ra..", 1<<22), api.Input{}, 1)
}

// TestEnds: a run that goes round for ever is stopped by its fuel.
func TestEnds(t *testing.T) {
	for _, s := range []string{"j1..j1..", "j1..?a11", "j1..j2..j1..", "j1..+aaa?a12^aaaj1.."} {
		if o, e := Run(s, api.Input{}, api.MaxFuel); e != api.OK || o.Status != api.Tired {
			t.Errorf("P1: Run(%q) = %d, %d, want it to tire", s, o.Status, e)
		}
	}
}

// TestSameAgain: nothing is kept from one call to the next, in whatever order they come.
func TestSameAgain(t *testing.T) {
	d := &dice{now: 6}
	type call struct {
		s    string
		in   api.Input
		fuel int
		n    int
		ce   api.Errno
		o    api.Outcome
		re   api.Errno
	}
	var calls []call
	for n := 0; n < 3000; n++ {
		c := call{s: d.program("abcAB"), in: d.input(), fuel: d.throw(100)}
		c.n, c.ce = Check(c.s)
		c.o, c.re = Run(c.s, c.in, c.fuel)
		calls = append(calls, c)
	}
	for at := len(calls) - 1; at >= 0; at-- {
		c := calls[at]
		o, re := Run(c.s, c.in, c.fuel)
		n, ce := Check(c.s)
		if n != c.n || ce != c.ce || o != c.o || re != c.re {
			t.Errorf("P2: %q, %v, %d: first %d, %d, %+v, %d, then %d, %d, %+v, %d", c.s, c.in, c.fuel, c.n, c.ce, c.o, c.re, n, ce, o, re)
		}
	}
}
