package compile

import (
	"strings"
	"testing"

	"spill/code"
	"spill/home"
)

// end6: what clears the registers of a machine with 6 of them.
const end6 = "~1..~2..~3..~4..~5.."

func TestMachine(t *testing.T) {
	for _, c := range []struct{ s, want string }{
		{"ra..", end6 + "r0.."},
		{"rB..", "=03." + end6 + "r0.."},
		{"j1..j1..", "j1..j1.."},
		{"=aa.ra..", end6 + "r0.."},
		{"sab.SbA.ra..", "s01.S12." + end6 + "r0.."},
		{"?a12rb..rb..", "?012=01." + end6 + "r0..=01." + end6 + "r0.."},
		// What nothing comes to is made as well.
		{"ra..j2..?b12", end6 + "r0..j2..?012"},
	} {
		p, ok := code.ReadSource(c.s)
		if got := Machine(&p, 6); !ok || got != c.want {
			t.Errorf("P9: of %q there is made %q, want %q", c.s, got, c.want)
		}
	}
	if got := Machine(&code.Program{}, 6); got != "" {
		t.Errorf("of nothing there is made %q", got)
	}
}

// made: what one instruction becomes in a machine with 6 registers, where small letters a to d live in registers 0 to 3 and all others in slots.
func made(i string) string {
	s := "#a00#b00#c00#d00"
	sum := ""
	for _, r := range "efghABCDE" {
		s += "#" + string(r) + "00"
		sum += "+aa" + string(r)
	}
	p, _ := code.ReadSource("j1.." + i + "ra.." + s + sum + "+aab+aac+aadra..")
	m := maker{registers: 6, one: 4, two: 5}
	m.homes = home.Of(&p, 6)
	m.follow(p.Code[1])
	return code.WriteMachine(m.made)
}

// TestFollow: whatever lives in slots, an instruction becomes four at the most.
func TestFollow(t *testing.T) {
	for _, c := range []struct{ i, want string }{
		{"+abc", "+012"}, {"+afc", "<4f.+042"}, {"+abf", "<5f.+015"}, {"+afg", "<4f.<5g.+045"}, {"+aff", "<4f.<5f.+045"},
		{"-fab", "-501>f5."}, {"*ffb", "<4f.*541>f5."}, {"&faf", "<5f.&505>f5."}, {"^fgh", "<4g.<5h.^545>f5."}, {"+fff", "<4f.<5f.+545>f5."},
		{"#a70", "#070"}, {"#f07", "#507>f5."},
		{"=ab.", "=01."}, {"=af.", "<0f."}, {"=fa.", ">f0."}, {"=fg.", "<5g.>f5."}, {"=aa.", ""}, {"=ff.", ""},
		{"lab.", "l01."}, {"laf.", "<4f.l04."}, {"lfa.", "l50.>f5."}, {"lfg.", "<4g.l54.>f5."}, {"LAa.", "L50.>A5."},
		{"sab.", "s01."}, {"saf.", "<5f.s05."}, {"sfa.", "<4f.s40."}, {"Sfg.", "<4f.<5g.S45."}, {"Sff.", "<4f.<5f.S45."},
		{"j1..", "j1.."}, {"?a12", "?012"}, {"?f12", "<4f.?412"},
	} {
		if got := made(c.i); got != c.want {
			t.Errorf("P9: %q becomes %q, want %q", c.i, got, c.want)
		}
	}
	slots := "~e..~f..~g..~h..~A..~B..~C..~D..~E..r0.."
	for i, want := range map[string]string{"ra..": "", "rb..": "=01.", "rf..": "<0f."} {
		if got := made(i); got != want+end6+slots {
			t.Errorf("P9: %q becomes %q", i, got)
		}
	}
}

// TestBegin: the arguments that will be read, and live in slots, are stored there ahead of all else.
func TestBegin(t *testing.T) {
	sum := ""
	s := ""
	for _, r := range "cdefghi" {
		s += "#" + string(r) + "01"
		sum += "+BB" + string(r)
	}
	for reads, want := range map[string]string{"": ">B3.", "+BBA": ">A2.>B3.", "+BBa+BBA": ">A2.>B3.", "#A01+BBA": ">B3.", "=Ca.+BBC": ">B3."} {
		p, _ := code.ReadSource(s + sum + reads + "rB..")
		got := Machine(&p, 6)
		if !strings.HasPrefix(got, want+"#") {
			t.Errorf("P9: %q begins with %.24q, want %q", reads, got, want)
		}
	}
}
