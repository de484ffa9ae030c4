package flow

import (
	"testing"

	"spill/code"
)

func read(t *testing.T, s string) *code.Program {
	t.Helper()
	p, ok := code.ReadSource(s)
	if !ok {
		t.Fatalf("%q is no program", s)
	}
	return &p
}

// letters: a set's registers, in the order of their numbers.
func letters(set Set) string {
	s := ""
	for r, letter := range "abcdefghijklmnopqrstuvwxyzABCDEFGHIJKLMNOPQRSTUVWXYZ" {
		if set.Has(r) {
			s += string(letter)
		}
	}
	return s
}

func TestLiveAtStarts(t *testing.T) {
	for _, c := range []struct {
		s    string
		want []string
	}{
		{"+cab*ccarc..", []string{"ab"}},
		{"?a12#c07rc..rb..", []string{"ab", "", "b"}},
		{"j1..+aab?a12rA..", []string{"abA", "abA", "A"}},
		{"j9..rc..j1..j2..j3..j4..j5..j6..j7..j8..", []string{"c", "c", "c", "c", "c", "c", "c", "c", "c", "c"}},
		{"ra..SzZ.rB..", []string{"a", "zBZ"}},
		{"j1..j1..", []string{"", ""}},
	} {
		live := LiveAtStarts(read(t, c.s))
		if len(live) != len(c.want) {
			t.Errorf("%q has %d blocks, want %d", c.s, len(live), len(c.want))
			continue
		}
		for b, want := range c.want {
			if got := letters(live[b]); got != want {
				t.Errorf("live at the beginning of block %d of %q: %q, want %q", b, c.s, got, want)
			}
		}
	}
}

func TestMayReadUnset(t *testing.T) {
	for s, want := range map[string]bool{"ra..": false, "rB..": false, "rc..": true, "=cc.ra..": true, "ra..rc..": false, "?a12#c01j2..rc..": true} {
		if MayReadUnset(read(t, s)) != want {
			t.Errorf("P3: MayReadUnset(%q) = %v", s, !want)
		}
	}
	if MayReadUnset(&code.Program{}) {
		t.Error("nothing is read where nothing stands")
	}
}

func TestHasOutside(t *testing.T) {
	set := Set{}
	set.put(code.None, true)
	set.put(code.Registers, true)
	if set.Has(code.None) || set.Has(code.Registers) || set != (Set{}) {
		t.Error("a set holds what is no register")
	}
}
