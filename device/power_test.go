package device

import (
	"bytes"
	"strconv"
	"testing"

	"escutcheon/api"
)

// P21.4, and the chapter's examples

func TestExamples(t *testing.T) {
	d, err := New(32, nil, nil)
	if err != nil {
		t.Fatal(err)
	}
	if err := d.Write(8, row(20)); err != nil || d.Steps() != 2 {
		t.Errorf("Write(8, 20 bytes) = %v, %d steps", err, d.Steps())
	}
	if d.Burn(0) != nil || d.Burn(2) != nil || d.Level() != 1 || d.Fuses() != 5 || d.Steps() != 4 {
		t.Errorf("level %d, fuses %x, %d steps", d.Level(), d.Fuses(), d.Steps())
	}
	if want := append(append(make([]byte, 8), row(20)...), 0, 0, 0, 0); !bytes.Equal(d.Ram(), want) {
		t.Errorf("%x; want %x", d.Ram(), want)
	}
	if err := d.Cut(1); err != nil {
		t.Errorf("Cut(1) = %v", err)
	}
	if err := d.Write(0, row(20)); err != api.ErrCut || d.On() || len(d.Ram()) != 32 || !isZero(d.Ram()) {
		t.Errorf("Write(0, 20 bytes) = %v, on %v, %x", err, d.On(), d.Ram())
	}
	if d.Steps() != 5 || d.Level() != 1 || d.Fuses() != 5 {
		t.Errorf("%d steps, level %d, fuses %x", d.Steps(), d.Level(), d.Fuses())
	}
}

func TestBudgetsBelow0(t *testing.T) {
	for name, p := range stands(t, 40) {
		for _, budget := range []int{-1, -2, -1000, leastInt + 1, leastInt} {
			// Also while it is off.
			if err := p.d.Cut(budget); err != api.ErrArg {
				t.Errorf("%s: Cut(%d) = %v", name, budget, err)
			}
			checkAll(t, name+", Cut("+strconv.Itoa(budget)+")", p.d, p.m)
		}
	}
}

func TestBudgets(t *testing.T) {
	for name, p := range stands(t, 40) {
		for _, budget := range []int{0, 1, 2, 39, 40, 1000, greatestInt} {
			q := p.clone()
			want := error(nil)
			if p.m.off {
				want = api.ErrCut
			}
			if err := q.d.Cut(budget); err != want {
				t.Errorf("%s: Cut(%d) = %v; want %v", name, budget, err, want)
			}
			_ = q.m.cut(budget)
			// It is no step, nor does anything change at once.
			checkAll(t, name+", Cut("+strconv.Itoa(budget)+")", q.d, q.m)
		}
	}
}

// As many steps as are wanted, one too few, and one more: whichever steps they are.
func TestBudgetsOfSteps(t *testing.T) {
	steps := []call{burnCall(0), writeCall(0, row(1)), burnCall(0), writeCall(3, row(33)), burnCall(63), writeCall(0, row(40)), writeCall(5, nil), burnCall(1)}
	const wanted = 1 + 1 + 1 + 3 + 1 + 3 + 0 + 1
	for budget := 0; budget <= wanted+1; budget++ {
		p := newPair(t, 40, nil, row(1))
		p.do(t, cutCall(budget))
		for _, c := range steps {
			p.do(t, c)
			checkAll(t, "a budget of "+strconv.Itoa(budget)+", "+c.name, p.d, p.m)
		}
		if p.d.On() != (budget >= wanted) || p.d.Steps() != min(budget, wanted) {
			t.Errorf("a budget of %d: on %v, %d steps", budget, p.d.On(), p.d.Steps())
		}
	}
}

// The last one that was given is the budget, whatever was left.
func TestAnotherBudget(t *testing.T) {
	for _, budgets := range [][]int{{0, 3}, {5, 2}, {1, 1, 1}, {3, 0}, {0, 0}, {greatestInt, 1}, {1, greatestInt}} {
		p := newPair(t, 40, nil, nil)
		for _, budget := range budgets {
			p.do(t, cutCall(budget))
			checkAll(t, "one budget behind the other", p.d, p.m)
		}
		for _, budget := range budgets {
			p.do(t, burnCall(3))
			if p.m.off {
				break
			}
			p.do(t, cutCall(budget))
			checkAll(t, "a budget behind a step", p.d, p.m)
		}
	}
}

// What the budget was tells nothing behind a refused one.
func TestRefusedBudgetLeavesTheOther(t *testing.T) {
	p := newPair(t, 40, nil, nil)
	p.do(t, cutCall(2))
	p.do(t, cutCall(-1))
	p.do(t, burnCall(0))
	p.do(t, cutCall(leastInt))
	p.do(t, burnCall(1))
	p.do(t, burnCall(2))
	if p.d.On() || p.d.Steps() != 2 || p.d.Fuses() != 3 {
		t.Errorf("on %v, %d steps, fuses %x", p.d.On(), p.d.Steps(), p.d.Fuses())
	}
}

func TestWhileItIsOff(t *testing.T) {
	p := newPair(t, 40, row(7), row(9))
	for _, c := range []call{writeCall(0, row(40)), burnCall(0), burnCall(1), burnCall(4), cutCall(0), burnCall(2)} {
		p.do(t, c)
	}
	d := p.d
	for range 3 {
		if d.On() || d.Steps() != 6 || d.Fuses() != 0x13 || d.Level() != 2 || len(d.Ram()) != 40 || !isZero(d.Ram()) {
			t.Errorf("on %v, %d steps, fuses %x, level %d, %x", d.On(), d.Steps(), d.Fuses(), d.Level(), d.Ram())
		}
		for _, err := range []error{d.Write(0, row(1)), d.Write(0, nil), d.Write(40, nil), d.Write(41, nil), d.Write(-1, row(50)), d.Burn(0), d.Burn(2), d.Burn(-1), d.Burn(64), d.Cut(0), d.Cut(5)} {
			if err != api.ErrCut {
				t.Errorf("%v; want %v", err, api.ErrCut)
			}
		}
		if err := d.Cut(-1); err != api.ErrArg {
			t.Errorf("Cut(-1) = %v", err)
		}
		if a, err := d.Slot(0); !bytes.Equal(a, row(7)) || err != nil {
			t.Errorf("Slot(0) = %x, %v", a, err)
		}
		if b, err := d.Slot(1); !bytes.Equal(b, row(9)) || err != nil {
			t.Errorf("Slot(1) = %x, %v", b, err)
		}
		checkAll(t, "off", d, p.m)
	}
	// The budget that was asked for while it was off is none.
	p.do(t, powerCall())
	checkAll(t, "on again", d, p.m)
	if !d.On() || !isZero(d.Ram()) || d.Steps() != 6 || d.Fuses() != 0x13 || d.Level() != 2 {
		t.Errorf("on %v, %x, %d steps, fuses %x, level %d", d.On(), d.Ram(), d.Steps(), d.Fuses(), d.Level())
	}
	for _, c := range []call{writeCall(0, row(40)), burnCall(2), writeCall(0, row(40))} {
		p.do(t, c)
		checkAll(t, "on again, "+c.name, d, p.m)
	}
	if d.Level() != 3 || d.Steps() != 6+3+1+3 {
		t.Errorf("level %d, %d steps", d.Level(), d.Steps())
	}
}

// While it is on, with a budget or without, nothing changes.
func TestPowerWhileItIsOn(t *testing.T) {
	for name, p := range stands(t, 40) {
		off := p.m.off
		for range 3 {
			p.do(t, powerCall())
			checkAll(t, name+", Power()", p.d, p.m)
		}
		if !p.d.On() {
			t.Errorf("%s: off", name)
		}
		if off && !isZero(p.d.Ram()) {
			t.Errorf("%s: %x", name, p.d.Ram())
		}
	}
	p := newPair(t, 40, nil, nil)
	p.do(t, cutCall(2))
	p.do(t, burnCall(0))
	p.d.Power()
	p.do(t, burnCall(1))
	p.d.Power()
	if err := p.d.Burn(2); err != api.ErrCut || p.d.On() {
		t.Errorf("%v, on %v: the budget has gone", err, p.d.On())
	}
}

// Cut and power, again and again.
func TestManyCuts(t *testing.T) {
	p := newPair(t, 100, nil, nil)
	for i := range 64 {
		p.do(t, cutCall(i%8))
		p.do(t, writeCall(i, row(33)))
		p.do(t, burnCall(i))
		p.do(t, burnCall(i))
		check(t, strconv.Itoa(i), p.d, p.m)
		p.do(t, powerCall())
		checkAll(t, strconv.Itoa(i)+", on again", p.d, p.m)
	}
	// Three steps go ahead of the fuse: in four of eight rounds there is a fourth one.
	if want := uint64(0xf0f0f0f0f0f0f0f0); p.d.Fuses() != want {
		t.Errorf("fuses %x; want %x", p.d.Fuses(), want)
	}
}
