package flow

import (
	"testing"

	"spill/code"
)

func TestHasOutside(t *testing.T) {
	set := Set{}
	set.Put(code.None, true)
	set.Put(code.Registers, true)
	if set.Has(code.None) || set.Has(code.Registers) || set != (Set{}) {
		t.Error("a set holds what is no register")
	}
}

func TestText(t *testing.T) {
	set := Set{}
	if got := set.Text(); got != "" {
		t.Errorf("the empty set is written as %q", got)
	}
	for r := code.Registers - 1; r >= 0; r-- {
		set.Put(r, true)
		set.Put(r, true)
	}
	if got := set.Text(); got != "ABCDEFGHIJKLMNOPQRSTUVWXYZabcdefghijklmnopqrstuvwxyz" {
		t.Errorf("P7: all registers are written as %q", got)
	}
	set.Put(0, false)
	set.Put(code.Registers-1, false)
	if got := set.Text(); got != "ABCDEFGHIJKLMNOPQRSTUVWXYbcdefghijklmnopqrstuvwxyz" {
		t.Errorf("all registers but a and Z are written as %q", got)
	}
}
