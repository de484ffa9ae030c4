package spill

import (
	"strings"
	"testing"

	"spill/api"
)

// zeroWithError: with an error every other result is nothing.
func zeroWithError(t *testing.T, s string, k int, in api.Input, fuel int) {
	t.Helper()
	if n, e := Check(s); e != api.OK && n != 0 {
		t.Errorf("P1: Check(%.80q) = %d, %d", s, n, e)
	}
	if o, e := Run(s, in, fuel); e != api.OK && o != (api.Outcome{}) {
		t.Errorf("P1: Run(%.80q, %v, %d) = %+v, %d", s, in, fuel, o, e)
	}
	if o, e := Exec(s, k, in, fuel); e != api.OK && o != (api.Outcome{}) {
		t.Errorf("P1: Exec(%.80q, %d, %v, %d) = %+v, %d", s, k, in, fuel, o, e)
	}
	for _, c := range [][2]string{{s, s}, {s, "r0.."}, {"ra..", s}} {
		if ok, e := Accept(c[0], c[1], k); e != api.OK && ok {
			t.Errorf("P1: Accept(%.80q, %.80q, %d) = %v, %d", c[0], c[1], k, ok, e)
		}
	}
	for _, n := range []int{k, fuel} {
		if l, e := Live(s, n); e != api.OK && l != "" {
			t.Errorf("P1: Live(%.80q, %d) = %q, %d", s, n, l, e)
		}
		if l, e := Core(s, n); e != api.OK && l != "" {
			t.Errorf("P1: Core(%.80q, %d) = %q, %d", s, n, l, e)
		}
		if m, e := Compile(s, n); e != api.OK && m != "" {
			t.Errorf("P1: Compile(%.80q, %d) = %q, %d", s, n, m, e)
		}
	}
}

// TestNoPanic: all kinds of texts and numbers; a panic ends the test.
func TestNoPanic(t *testing.T) {
	d := &dice{now: 5}
	numbers := []int{0, 1, 7, 8, 20000, 20001, 65535, 65536, -1, -1 << 63, 1<<63 - 1}
	for n := 0; n < 30000; n++ {
		s := ""
		switch d.throw(4) {
		case 0:
			for length := d.throw(40); length > 0; length-- {
				s += string([]byte{byte(d.throw(256))})
			}
		case 1:
			for length := d.throw(70); length > 0; length-- {
				s += d.of("abAB019.+-*&^#=lLsSj?r><~")
			}
		case 2:
			s = d.marred(d.marred(d.machineProgram(8)))
		default:
			s = d.marred(d.marred(d.program("abcABC")))
		}
		in := d.input()
		fuel := d.throw(200)
		k := 5 + d.throw(7)
		if d.throw(3) == 0 {
			in.Args[d.throw(4)] = numbers[d.throw(len(numbers))]
			in.Public[d.throw(8)] = numbers[d.throw(len(numbers))]
			fuel = numbers[d.throw(len(numbers))]
			k = numbers[d.throw(len(numbers))]
		}
		zeroWithError(t, s, k, in, fuel)
	}
	for length := 0; length < 300; length++ {
		zeroWithError(t, strings.Repeat("r", length), 6, api.Input{}, 1)
		zeroWithError(t, strings.Repeat("ra..", 80)[:length], 6, api.Input{}, 1)
		zeroWithError(t, (strings.Repeat("=00.", 1023) + "r0..=00.=00.")[:4104-length], 6, api.Input{}, 1)
	}
	zeroWithError(t, strings.Repeat("ra..", 1<<22), 6, api.Input{}, 1)
}

// TestEnds: a run that goes round for ever is stopped by its fuel.
func TestEnds(t *testing.T) {
	for _, s := range []string{"j1..j1..", "j1..?a11", "j1..j2..j1..", "j1..+aaa?a12^aaaj1.."} {
		if o, e := Run(s, api.Input{}, api.MaxFuel); e != api.OK || o.Status != api.Tired {
			t.Errorf("P1: Run(%q) = %d, %d, want it to tire", s, o.Status, e)
		}
	}
	for _, m := range []string{"j1..j1..", "j1..?011", "j1..~a..>a0.<0a.j1.."} {
		if o, e := Exec(m, 6, api.Input{}, api.MaxFuel); e != api.OK || o.Status != api.Tired {
			t.Errorf("P1: Exec(%q) = %d, %d, want it to tire", m, o.Status, e)
		}
	}
}

// answers: what the calls answer to the same texts and numbers.
type answers struct {
	n        int
	run      api.Outcome
	exec     api.Outcome
	accepted bool
	live     string
	core     string
	compiled string
	errors   [7]api.Errno
}

func answersOf(s, m string, in api.Input, fuel int) answers {
	a := answers{}
	a.n, a.errors[0] = Check(s)
	a.run, a.errors[1] = Run(s, in, fuel)
	a.exec, a.errors[2] = Exec(m, 6, in, fuel)
	a.accepted, a.errors[3] = Accept(s, m, 6)
	a.live, a.errors[4] = Live(s, fuel%4)
	a.core, a.errors[5] = Core(s, 1+fuel%4)
	a.compiled, a.errors[6] = Compile(s, 6+fuel%5)
	return a
}

// TestSameAgain: nothing is kept from one call to the next, in whatever order they come.
func TestSameAgain(t *testing.T) {
	d := &dice{now: 6}
	type call struct {
		s, m string
		in   api.Input
		fuel int
		all  answers
	}
	var calls []call
	for n := 0; n < 3000; n++ {
		c := call{s: d.chain("abcAB"), m: d.machineProgram(6), in: d.input(), fuel: d.throw(100)}
		if _, e := Check(c.s); (e == api.OK || e == api.ErrSecret) && d.throw(2) == 0 {
			c.m = d.translate(c.s, 6)
		}
		c.all = answersOf(c.s, c.m, c.in, c.fuel)
		calls = append(calls, c)
	}
	for at := len(calls) - 1; at >= 0; at-- {
		c := calls[at]
		if again := answersOf(c.s, c.m, c.in, c.fuel); again != c.all {
			t.Errorf("P2: %q, %q, %v, %d: first %+v, then %+v", c.s, c.m, c.in, c.fuel, c.all, again)
		}
	}
}
