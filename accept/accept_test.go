package accept

import (
	"testing"

	"spill/code"
)

// both reads a source program and a machine program with 6 registers.
func both(t *testing.T, s, m string) (*code.Program, *code.Program) {
	t.Helper()
	source, ok := code.ReadSource(s)
	machine, alsoOK := code.ReadMachine(m, 6)
	if !ok || !alsoOK {
		t.Fatalf("%q, %q: no programs", s, m)
	}
	return &source, &machine
}

// list: the pairs of a set, each a register of the source or 0, and a place; of the pairs of 0 only those with the registers of a machine of 6.
func list(e *pairs) string {
	l := ""
	for value := 0; value <= zero; value++ {
		for place := 0; place < code.Places; place++ {
			if !e.has(value, place) || value == zero && place >= 6 {
				continue
			}
			name := "0"
			if value != zero {
				name = string(rune(code.Letter(value)))
			}
			if place < code.FirstSlot {
				name += string(rune('0' + place))
			} else {
				name += string(rune(code.Letter(place - code.FirstSlot)))
			}
			l += name + " "
		}
	}
	return l
}

func TestAtBeginning(t *testing.T) {
	e := atBeginning()
	if got := list(&e); got != "a0 b1 A2 B3 04 05 " {
		t.Errorf("P6: block 0 begins with %s", got)
	}
	for place := 0; place < code.Places; place++ {
		if e.has(zero, place) != (place >= 4) {
			t.Errorf("P6: at the beginning, 0 in place %d: %v", place, place < 4)
		}
	}
}

// TestPlay: the pairs with which a block ends, straight from the document's rules.
func TestPlay(t *testing.T) {
	for _, c := range []struct{ s, m, want string }{
		{"j1..ra..", "j1..r0..", "a0 b1 A2 B3 04 05 "},
		{"=ca.j1..ra..", "j1..r0..", "a0 b1 c0 A2 B3 04 05 "},
		{"=ba.j1..ra..", "j1..r0..", "a0 b0 A2 B3 04 05 "},
		{"=aa.j1..ra..", "=11.j1..r0..", "a0 b1 A2 B3 04 05 "},
		{"j1..ra..", "=10.j1..r0..", "a0 a1 A2 B3 04 05 "},
		{"j1..ra..", ">q0.<5q.j1..r0..", "a0 a5 aq b1 A2 B3 04 "},
		{"j1..ra..", ">q4.<0q.j1..r0..", "b1 A2 B3 00 04 05 "},
		{"j1..ra..", "~0..=10.j1..r0..", "A2 B3 00 01 04 05 "},
		{"=ca.j1..ra..", "=40.j1..r0..", "a0 a4 b1 c0 c4 A2 B3 05 "},
		{"+cabj1..ra..", "+401j1..r0..", "a0 b1 c4 A2 B3 05 "},
		{"+aabj1..ra..", "=40.+001j1..r0..", "a0 b1 A2 B3 05 "},
		{"+cabj1..ra..", "+001j1..r0..", "b1 c0 A2 B3 04 05 "},
		{"+abbj1..ra..", "+111j1..r0..", "a1 A2 B3 04 05 "},
		{"#c00j1..ra..", "#500j1..r0..", "a0 b1 c5 A2 B3 04 "},
		{"sab.j1..ra..", "s01.j1..r0..", "a0 b1 A2 B3 04 05 "},
		{"?a11ra..", "?011r0..", "a0 b1 A2 B3 04 05 "},
	} {
		s, m := both(t, c.s, c.m)
		e := atBeginning()
		if ok := e.play(s, m, 0); !ok || list(&e) != c.want {
			t.Errorf("P6: %q beside %q ends with %s, %v, want %s", c.m, c.s, list(&e), ok, c.want)
		}
	}
}

func TestPlayBadly(t *testing.T) {
	for _, c := range []struct{ s, m string }{
		{"ra..", "r0.."}, {"rb..", "~1..~2..~3..r0.."}, {"+cabj1..ra..", "+400j1..r0.."}, {"j1..ra..", "?011r0.."}, {"sab.j1..ra..", "j1..r0.."}, {"j1..ra..", "s01.j1..r0.."},
	} {
		s, m := both(t, c.s, c.m)
		e := atBeginning()
		if e.play(s, m, 0) {
			t.Errorf("P6: %q is well played beside %q", c.m, c.s)
		}
	}
	s, m := both(t, "ra..", "~1..~2..~3..r0..")
	for _, b := range []int{-1, 1, 1 << 40} {
		e := atBeginning()
		if e.play(s, m, b) {
			t.Errorf("P6: block %d, which is not there, is well played", b)
		}
	}
}

func TestMeet(t *testing.T) {
	e, other := atBeginning(), atBeginning()
	e.copyPlace(4, 0)
	other.copyPlace(5, 0)
	e.meet(&other)
	if got := list(&e); got != "a0 b1 A2 B3 " {
		t.Errorf("P6: both have %s", got)
	}
}

func TestAccepted(t *testing.T) {
	for _, c := range []struct {
		s, m string
		want bool
	}{
		{"ra..", "~1..~2..~3..r0..", true},
		{"ra..", "~1..~2..~3..r0..r0..", false},
		{"j1..-aab?a12ra..", "=41.j1..-004?012~4..~1..~2..~3..r0..", true},
		{"j1..-aab?a12ra..", "=41.j1..-004=40.?012~4..~1..~2..~3..r0..", false},
		{"j2..rb..ra..", "j2..r0..~1..~2..~3..r0..", true},
	} {
		s, m := both(t, c.s, c.m)
		if Accepted(s, m) != c.want {
			t.Errorf("P6: %q for %q: %v", c.m, c.s, !c.want)
		}
	}
}

// TestNoPlace: what is no value and no place is in no pair, and lets nothing break.
func TestNoPlace(t *testing.T) {
	e := atBeginning()
	before := e
	for _, n := range []int{code.None, code.Places, 64, 1 << 40, -1 << 63} {
		e.set(zero, n)
		e.copyPlace(n, 0)
		e.copyPlace(0, n)
		e.lose(n)
		e.copyRegister(n, 0)
		if e.has(n, 0) || e.has(0, n) {
			t.Errorf("P1: %d is a value or a place", n)
		}
	}
	if e != before {
		t.Error("P1: the pairs are others")
	}
}
