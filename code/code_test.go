package code

import (
	"reflect"
	"testing"
)

func TestReadSource(t *testing.T) {
	p, ok := ReadSource("+cAb#Z07?a12SaB.j2..rz..")
	want := Program{
		Code: []Instruction{
			{Op: '+', D: 2, X: 26, Y: 1, K: None, M: None},
			{Op: '#', D: 51, X: None, Y: None, N: 7, K: None, M: None},
			{Op: '?', D: None, X: 0, Y: None, K: 1, M: 2},
			{Op: 'S', D: None, X: 0, Y: 27, K: None, M: None},
			{Op: 'j', D: None, X: None, Y: None, K: 2, M: None},
			{Op: 'r', D: None, X: 25, Y: None, K: None, M: None},
		},
		Blocks: []Block{{0, 2}, {3, 4}, {5, 5}},
	}
	if !ok || !reflect.DeepEqual(p, want) {
		t.Errorf("P3: ReadSource = %+v, %v, want %+v", p, ok, want)
	}
}

func TestReadSourceRefuses(t *testing.T) {
	for _, s := range []string{"", "r", "ra.", "ra..r", "+aab", "ra..+aab", "xa..", "j0..", "j1..", "?a11", "ra..j2.."} {
		if p, ok := ReadSource(s); ok || len(p.Code) != 0 || len(p.Blocks) != 0 {
			t.Errorf("P3: ReadSource(%q) = %+v, %v, want nothing", s, p, ok)
		}
	}
}

func TestReadMachine(t *testing.T) {
	p, ok := ReadMachine("+501>Z3.<4a.~z..~5..?012#499j2..r0..", 6)
	want := Program{
		Code: []Instruction{
			{Op: '+', D: 5, X: 0, Y: 1, K: None, M: None},
			{Op: '>', D: 61, X: 3, Y: None, K: None, M: None},
			{Op: '<', D: 4, X: 10, Y: None, K: None, M: None},
			{Op: '~', D: 35, X: None, Y: None, K: None, M: None},
			{Op: '~', D: 5, X: None, Y: None, K: None, M: None},
			{Op: '?', D: None, X: 0, Y: None, K: 1, M: 2},
			{Op: '#', D: 4, X: None, Y: None, N: 99, K: None, M: None},
			{Op: 'j', D: None, X: None, Y: None, K: 2, M: None},
			{Op: 'r', D: None, X: 0, Y: None, K: None, M: None},
		},
		Blocks: []Block{{0, 5}, {6, 7}, {8, 8}},
	}
	if !ok || !reflect.DeepEqual(p, want) {
		t.Errorf("P5: ReadMachine = %+v, %v, want %+v", p, ok, want)
	}
}

func TestReadMachineRefuses(t *testing.T) {
	for _, s := range []string{"", "r0.", "ra..", "r1..", "=60.r0..", "~6..r0..", "~...r0..", ">00.r0..", ">aa.r0..", "<aa.r0..", "<00.r0..", "+abcr0..", "j1.."} {
		if p, ok := ReadMachine(s, 6); ok || len(p.Code) != 0 || len(p.Blocks) != 0 {
			t.Errorf("P5: ReadMachine(%q, 6) = %+v, %v, want nothing", s, p, ok)
		}
	}
	if _, ok := ReadMachine("=60.r0..", 7); !ok {
		t.Error("P5: register 6 is not there with 7 registers")
	}
}

// TestWriteMachine: what is read is written as it was, every kind of instruction with every place.
func TestWriteMachine(t *testing.T) {
	texts := []string{"+501>Z3.<4a.~z..~5..?012#499j2..r0..", "-987*654&321^098#070#907=90.l89.L78.s67.S56.?598j9..r0..r0..r0..r0..r0..r0..r0..r0..", "r0.."}
	for n := range alphabet {
		slot := alphabet[n : n+1]
		texts = append(texts, ">"+slot+"9.<8"+slot+".~"+slot+"..r0..")
	}
	for _, text := range texts {
		p, ok := ReadMachine(text, 10)
		if got := WriteMachine(p.Code); !ok || got != text {
			t.Errorf("P9: %q, read and written, is %q", text, got)
		}
	}
	if got := WriteMachine(nil); got != "" {
		t.Errorf("nothing is written as %q", got)
	}
}

// TestWriteMachineNoParts: what an instruction has not is a dot, and so no program.
func TestWriteMachineNoParts(t *testing.T) {
	for _, op := range "+#=lsj?r><~" {
		text := WriteMachine([]Instruction{Bare(byte(op))})
		if _, ok := ReadMachine(text+"r0..", 10); ok || len(text) != Width {
			t.Errorf("an instruction without its parts is written as %q", text)
		}
	}
	far := Instruction{Op: '=', D: Places, X: 1 << 40}
	if got := WriteMachine([]Instruction{far}); got != "=..." {
		t.Errorf("places that are not there are written as %q", got)
	}
}

func TestIsSlot(t *testing.T) {
	for place, want := range map[int]bool{None: false, 0: false, 9: false, 10: true, 61: true} {
		if IsSlot(place) != want {
			t.Errorf("IsSlot(%d) = %v", place, !want)
		}
	}
}

func TestLetter(t *testing.T) {
	for n, want := range map[int]byte{-1: '.', 0: 'a', 25: 'z', 26: 'A', 51: 'Z', 52: '.'} {
		if got := Letter(n); got != want {
			t.Errorf("Letter(%d) = %q, want %q", n, got, want)
		}
	}
}

func TestStart(t *testing.T) {
	p, _ := ReadSource("#c01j1..ra..")
	for b, want := range map[int]int{-1: None, 0: 0, 1: 2, 2: None, 1 << 40: None} {
		if got := p.Start(b); got != want {
			t.Errorf("block %d begins at %d, want %d", b, got, want)
		}
	}
}

func TestIsSecret(t *testing.T) {
	for r, want := range map[int]bool{None: false, 0: false, 25: false, 26: true, 51: true} {
		if IsSecret(r) != want {
			t.Errorf("IsSecret(%d) = %v", r, !want)
		}
	}
}
