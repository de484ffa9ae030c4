package code

import (
	"reflect"
	"testing"
)

func TestRead(t *testing.T) {
	p, ok := Read("+cAb#Z07?a12SaB.j2..rz..")
	want := Program{
		Code: []Instruction{
			{Op: '+', D: 2, X: 26, Y: 1, K: None, M: None},
			{Op: '#', D: 51, X: None, Y: None, N: 7, K: None, M: None},
			{Op: '?', D: None, X: 0, Y: None, K: 1, M: 2},
			{Op: 'S', D: None, X: 0, Y: 27, K: None, M: None},
			{Op: 'j', D: None, X: None, Y: None, K: 2, M: None},
			{Op: 'r', D: None, X: 25, Y: None, K: None, M: None},
		},
		Blocks: []Block{{0, 2}, {3, 4}, {5, 5}},
	}
	if !ok || !reflect.DeepEqual(p, want) {
		t.Errorf("P3: Read = %+v, %v, want %+v", p, ok, want)
	}
}

func TestReadRefuses(t *testing.T) {
	for _, s := range []string{"", "r", "ra.", "ra..r", "+aab", "ra..+aab", "xa..", "j0..", "j1..", "?a11", "ra..j2.."} {
		if p, ok := Read(s); ok || len(p.Code) != 0 || len(p.Blocks) != 0 {
			t.Errorf("P3: Read(%q) = %+v, %v, want nothing", s, p, ok)
		}
	}
}

func TestStart(t *testing.T) {
	p, _ := Read("#c01j1..ra..")
	for b, want := range map[int]int{-1: None, 0: 0, 1: 2, 2: None, 1 << 40: None} {
		if got := p.Start(b); got != want {
			t.Errorf("block %d begins at %d, want %d", b, got, want)
		}
	}
}

func TestIsSecret(t *testing.T) {
	for r, want := range map[int]bool{None: false, 0: false, 25: false, 26: true, 51: true} {
		if IsSecret(r) != want {
			t.Errorf("IsSecret(%d) = %v", r, !want)
		}
	}
}
