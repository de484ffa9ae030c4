package flow

import (
	"testing"

	"spill/code"
)

func read(t *testing.T, s string) *code.Program {
	t.Helper()
	p, ok := code.ReadSource(s)
	if !ok {
		t.Fatalf("%q is no program", s)
	}
	return &p
}

func TestLiveAhead(t *testing.T) {
	for _, c := range []struct {
		s    string
		want []string
	}{
		{"+cab*ccarc..", []string{"ab", "ac", "c"}},
		{"?a12#c07rc..rb..", []string{"ab", "", "c", "b"}},
		{"j1..+aab?a12rA..", []string{"Aab", "Aab", "Aab", "A"}},
		{"j9..rc..j1..j2..j3..j4..j5..j6..j7..j8..", []string{"c", "c", "c", "c", "c", "c", "c", "c", "c", "c"}},
		{"j1..j2..j3..j4..j5..j6..j7..j8..j9..rc..", []string{"c", "c", "c", "c", "c", "c", "c", "c", "c", "c"}},
		{"ra..SzZ.rB..", []string{"a", "BZz", "B"}},
		{"j1..j1..", []string{"", ""}},
		// What stands behind the end of a block does not come next.
		{"ra..rb..", []string{"a", "b"}},
	} {
		live := LiveAhead(read(t, c.s))
		if len(live) != len(c.want) {
			t.Errorf("%q has %d instructions, want %d", c.s, len(live), len(c.want))
			continue
		}
		for at, want := range c.want {
			if got := live[at].Text(); got != want {
				t.Errorf("P7: live ahead of instruction %d of %q: %q, want %q", at, c.s, got, want)
			}
		}
	}
	if live := LiveAhead(&code.Program{}); len(live) != 0 {
		t.Errorf("where nothing stands there is live: %v", live)
	}
}

func TestAtBeginning(t *testing.T) {
	for s, want := range map[string]string{"+cab*ccarc..": "ab", "#a01rA..ra..": "A", "#c01rc..": "", "?a12rB..rb..": "Bab", "j1..j1..": ""} {
		live := AtBeginning(read(t, s))
		if got := live.Text(); got != want {
			t.Errorf("P9: live at the beginning of %q: %q, want %q", s, got, want)
		}
	}
	if live := AtBeginning(&code.Program{}); live != (Set{}) {
		t.Errorf("where nothing stands there is live: %v", live)
	}
}

func TestMayReadUnset(t *testing.T) {
	for s, want := range map[string]bool{"ra..": false, "rB..": false, "rc..": true, "=cc.ra..": true, "ra..rc..": false, "?a12#c01j2..rc..": true} {
		if MayReadUnset(read(t, s)) != want {
			t.Errorf("P3: MayReadUnset(%q) = %v", s, !want)
		}
	}
	if MayReadUnset(&code.Program{}) {
		t.Error("nothing is read where nothing stands")
	}
}
