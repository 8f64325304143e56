package device

import (
	"strconv"
	"testing"

	"escutcheon/api"
)

// P21.1

func TestNewHasAMemoryOfThatSize(t *testing.T) {
	for _, ram := range []int{0, 1, 15, 16, 17, 32, 256, 65535, 65536} {
		d, err := New(ram, row(3), row(4))
		if d == nil || err != nil {
			t.Fatalf("New(%d) = %v, %v", ram, d, err)
		}
		if b := d.Ram(); len(b) != ram || !isZero(b) {
			t.Errorf("New(%d) has a memory of %s", ram, short(b))
		}
		if d.Fuses() != 0 || d.Level() != 0 || !d.On() || d.Steps() != 0 {
			t.Errorf("New(%d): fuses %x, level %d, on %v, %d steps", ram, d.Fuses(), d.Level(), d.On(), d.Steps())
		}
		checkAll(t, "New("+strconv.Itoa(ram)+")", d, wantNew(ram, row(3), row(4)))
	}
}

func TestNewHasNoBudget(t *testing.T) {
	p := newPair(t, 65536, nil, nil)
	for range 3 {
		p.do(t, writeCall(0, row(65536)))
	}
	if p.d.Steps() != 3*4096 || !p.d.On() {
		t.Errorf("%d steps, on %v", p.d.Steps(), p.d.On())
	}
	check(t, "a memory written three times", p.d, p.m)
}

func TestNewRefusesAMemory(t *testing.T) {
	tooLong := row(api.MaxFlash + 1)
	for _, ram := range []int{leastInt, -65536, -2, -1, 65537, 65552, 1 << 17, 1 << 32, greatestInt} {
		for _, b := range [][]byte{nil, row(1), tooLong} {
			// That of the memory goes ahead.
			if d, err := New(ram, b, nil); d != nil || err != api.ErrArg {
				t.Errorf("New(%d, %s, none) = %v, %v", ram, short(b), d, err)
			}
			if d, err := New(ram, nil, b); d != nil || err != api.ErrArg {
				t.Errorf("New(%d, none, %s) = %v, %v", ram, short(b), d, err)
			}
		}
	}
}

func TestNewHoldsTheSlots(t *testing.T) {
	sizes := []int{0, 1, 16, 1000, 262143, 262144, 262145, 1 << 19}
	for _, first := range sizes {
		for _, second := range sizes {
			a, b := long(first, 0xa5), long(second, 0x5a)
			d, err := New(7, a, b)
			if want := wantNewError(7, a, b); err != want || (d == nil) != (want != nil) {
				t.Fatalf("New(7) with slots of %d and %d bytes = %v, %v; want %v", first, second, d, err, want)
			}
			if d != nil {
				check(t, strconv.Itoa(first)+" and "+strconv.Itoa(second)+" bytes", d, wantNew(7, a, b))
			}
		}
	}
}

func TestNewRefusesLongSlots(t *testing.T) {
	most, more := row(262144), row(262145)
	for _, ram := range []int{0, 65536} {
		for _, slots := range [][2][]byte{{more, nil}, {nil, more}, {more, more}, {more, most}, {most, more}} {
			if d, err := New(ram, slots[0], slots[1]); d != nil || err != api.ErrLong {
				t.Errorf("slots of %d and %d bytes: %v, %v", len(slots[0]), len(slots[1]), d, err)
			}
		}
	}
}

func TestSlotsWithoutBytes(t *testing.T) {
	for _, none := range [][]byte{nil, {}} {
		d, err := New(1, none, none)
		if err != nil {
			t.Fatal(err)
		}
		for i := range 2 {
			if b, err := d.Slot(i); len(b) != 0 || err != nil {
				t.Errorf("Slot(%d) = %s, %v", i, short(b), err)
			}
			if err := d.Flash(i, row(9)); err != nil {
				t.Error(err)
			}
			if err := d.Flash(i, none); err != nil {
				t.Error(err)
			}
			if b, err := d.Slot(i); len(b) != 0 || err != nil {
				t.Errorf("Slot(%d) = %s, %v", i, short(b), err)
			}
		}
	}
}

func TestOtherSlots(t *testing.T) {
	for name, p := range stands(t, 40) {
		for _, i := range []int{leastInt, -3, -2, -1, 2, 3, 256, greatestInt} {
			b, err := p.d.Slot(i)
			checkNil(t, name+": Slot("+strconv.Itoa(i)+")", b, err, api.ErrArg)
			for _, b := range [][]byte{nil, row(3), row(api.MaxFlash), row(api.MaxFlash + 1)} {
				// That of the slot goes ahead.
				if err := p.d.Flash(i, b); err != api.ErrArg {
					t.Errorf("%s: Flash(%d, %s) = %v", name, i, short(b), err)
				}
			}
		}
		checkAll(t, name, p.d, p.m)
	}
}

func TestFlashIsHeld(t *testing.T) {
	for name, p := range stands(t, 40) {
		for _, i := range []int{0, 1, 1, 0} {
			for _, size := range []int{1, 0, 5, 262144, 262143, 2} {
				p.do(t, flashCall(i, long(size, byte(size+i+1))))
				checkAll(t, name+", slot "+strconv.Itoa(i)+", "+strconv.Itoa(size)+" bytes", p.d, p.m)
			}
		}
	}
}

func TestLongFlashIsRefused(t *testing.T) {
	for name, p := range stands(t, 40) {
		for i := range 2 {
			for _, size := range []int{262145, 262146, 1 << 19} {
				if err := p.d.Flash(i, long(size, 7)); err != api.ErrLong {
					t.Errorf("%s: Flash(%d, %d bytes) = %v", name, i, size, err)
				}
				checkAll(t, name, p.d, p.m)
			}
		}
	}
}

// Neither is a step: with none left the power stays on.
func TestFlashIsNoStep(t *testing.T) {
	p := newPair(t, 20, nil, nil)
	p.do(t, cutCall(0))
	for i := range 2 {
		p.do(t, flashCall(i, row(1000)))
		if b, err := p.d.Slot(i); string(b) != string(row(1000)) || err != nil {
			t.Errorf("Slot(%d) = %s, %v", i, short(b), err)
		}
	}
	if !p.d.On() || p.d.Steps() != 0 {
		t.Errorf("on %v, %d steps", p.d.On(), p.d.Steps())
	}
	p.do(t, burnCall(0))
	if p.d.On() {
		t.Error("the budget has changed")
	}
	for i := range 2 {
		p.do(t, flashCall(i, row(7+i)))
	}
	if p.d.On() || p.d.Steps() != 0 {
		t.Errorf("on %v, %d steps", p.d.On(), p.d.Steps())
	}
	check(t, "laid while it was off", p.d, p.m)
	p.do(t, powerCall())
	check(t, "and on again", p.d, p.m)
}
