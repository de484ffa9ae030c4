package secrecy

import (
	"testing"

	"spill/code"
)

func TestMayShow(t *testing.T) {
	for s, want := range map[string]bool{
		"ra..":         false,
		"rA..":         false,
		"#A01rA..":     false,
		"lAa.LBa.rB..": false,
		"Saa.SaA.ra..": false,
		"+aaAra..":     true,
		"=aA.ra..":     true,
		"lAA.ra..":     true,
		"Laa.ra..":     true,
		"saA.ra..":     true,
		"SAa.ra..":     true,
		"ra..?A11":     true,
		"+AAA=aA.rA..": true,
	} {
		p, ok := code.ReadSource(s)
		if !ok {
			t.Fatalf("%q is no program", s)
		}
		if MayShow(&p) != want {
			t.Errorf("P3: MayShow(%q) = %v", s, !want)
		}
	}
}
