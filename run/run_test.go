package run

import (
	"testing"

	"spill/api"
	"spill/code"
)

func TestSource(t *testing.T) {
	p, ok := code.ReadSource("LCa.+CCASaC.?b12rC..ra..")
	if !ok {
		t.Fatal("no program")
	}
	in := api.Input{Args: [4]int{2, 1, 65535, 0}, Secret: [8]int{0, 0, 5}}
	want := api.Outcome{Status: api.Returned, Value: 4, Secret: [8]int{0, 0, 4}, Trace: "L2S2?1"}
	if got := Source(&p, in, 5); got != want {
		t.Errorf("P4: %+v, want %+v", got, want)
	}
	want = api.Outcome{Status: api.Tired, Secret: [8]int{0, 0, 5}, Trace: "L2"}
	if got := Source(&p, in, 2); got != want {
		t.Errorf("P4: %+v, want %+v", got, want)
	}
}

func TestMachine(t *testing.T) {
	p, ok := code.ReadMachine(">Z2.<5Z.~Z..L40.+445S04.>b5.~2..?112r0..r0..", 6)
	if !ok {
		t.Fatal("no program")
	}
	in := api.Input{Args: [4]int{2, 1, 65535, 0}, Secret: [8]int{0, 0, 5}}
	want := api.Outcome{Status: api.Returned, Value: 2, Secret: [8]int{0, 0, 4}, Trace: ">Z<Z~ZL2S2>b?1", Regs: [10]int{2, 1, 0, 0, 4, 65535}}
	want.Slots[1] = 65535
	if got := Machine(&p, in, 10); got != want {
		t.Errorf("P5: %+v, want %+v", got, want)
	}
	want = api.Outcome{Status: api.Tired, Secret: [8]int{0, 0, 5}, Trace: ">Z<Z", Regs: [10]int{2, 1, 65535, 0, 0, 65535}}
	want.Slots[51] = 65535
	if got := Machine(&p, in, 2); got != want {
		t.Errorf("P5: %+v, want %+v", got, want)
	}
}

func TestMayBegin(t *testing.T) {
	for fuel, want := range map[int]bool{-1: false, 0: true, api.MaxFuel: true, api.MaxFuel + 1: false} {
		if MayBegin(api.Input{}, fuel) != want {
			t.Errorf("P4: fuel %d: %v", fuel, !want)
		}
	}
	for value, want := range map[int]bool{-1: false, 0: true, api.Top: true, api.Top + 1: false} {
		in := api.Input{}
		in.Args[3] = value
		if MayBegin(in, 1) != want {
			t.Errorf("P4: argument %d: %v", value, !want)
		}
		in = api.Input{}
		in.Public[7] = value
		if MayBegin(in, 1) != want {
			t.Errorf("P4: public word %d: %v", value, !want)
		}
		in = api.Input{}
		in.Secret[7] = value
		if MayBegin(in, 1) != want {
			t.Errorf("P4: secret word %d: %v", value, !want)
		}
	}
}
