package device

import (
	"testing"

	"escutcheon/api"
)

// P21.5

// changes are calls of all kinds, each of which changes most devices.
func changes() []call {
	return []call{
		flashCall(0, row(17)), flashCall(1, nil), flashCall(1, row(2)), writeCall(0, long(40, 0x99)), writeCall(39, long(1, 0x98)),
		burnCall(0), burnCall(1), burnCall(63), cutCall(0), cutCall(1), cutCall(3), cutCall(1 << 20), powerCall(),
	}
}

func TestCloneStandsAlike(t *testing.T) {
	for name, p := range stands(t, 40) {
		q := p.clone()
		if q.d == nil || q.d == p.d {
			t.Fatalf("%s: the clone is %p, the device %p", name, q.d, p.d)
		}
		// The budget is told by steps of the clone itself.
		check(t, name+", the clone", q.d, q.m)
		for range 2000 {
			q.do(t, burnCall(7))
		}
		check(t, name+", the clone behind 2000 steps", q.d, q.m)
		check(t, name, p.d, p.m)
	}
}

func TestCloneOfAClone(t *testing.T) {
	for name, p := range stands(t, 40) {
		q := p.clone().clone().clone()
		checkAll(t, name, q.d, q.m)
		q.do(t, flashCall(0, row(3)))
		q.do(t, writeCall(0, long(16, 1)))
		check(t, name+", a clone that was changed", q.d, q.m)
		checkAll(t, name, p.d, p.m)
	}
}

// Neither of the two changes with the other.
func TestClonesAreTwo(t *testing.T) {
	for name, p := range stands(t, 40) {
		for _, first := range changes() {
			for _, second := range changes() {
				one := p.clone()
				two := one.clone()
				one.do(t, first)
				what := name + ", " + first.name
				checkAll(t, what+": the device", one.d, one.m)
				checkAll(t, what+": its clone", two.d, two.m)
				two.do(t, second)
				what += ", then the clone: " + second.name
				checkAll(t, what+": the device", one.d, one.m)
				checkAll(t, what+": its clone", two.d, two.m)
			}
		}
	}
}

func TestCloneOfLittleAndMuch(t *testing.T) {
	for _, ram := range []int{0, 1, 65536} {
		for _, size := range []int{0, 1, 262144} {
			p := newPair(t, ram, row(size), long(size, 0x44))
			p.do(t, writeCall(0, row(ram)))
			q := p.clone()
			p.do(t, flashCall(0, nil))
			p.do(t, cutCall(0))
			p.do(t, burnCall(0))
			checkAll(t, "a clone", q.d, q.m)
			checkAll(t, "what it was made of", p.d, p.m)
		}
	}
}

// A cut of one leaves the other on.
func TestCutOfAClone(t *testing.T) {
	p := newPair(t, 33, nil, nil)
	p.do(t, writeCall(0, row(33)))
	p.do(t, cutCall(2))
	q := p.clone()
	q.do(t, writeCall(0, long(33, 1)))
	if q.d.On() || !isZero(q.d.Ram()) || !p.d.On() || isZero(p.d.Ram()) {
		t.Errorf("the clone: on %v, %x; the device: on %v, %x", q.d.On(), q.d.Ram(), p.d.On(), p.d.Ram())
	}
	p.do(t, burnCall(0))
	p.do(t, burnCall(1))
	if !p.d.On() || q.d.Fuses() != 0 {
		t.Errorf("on %v, the clone's fuses %x", p.d.On(), q.d.Fuses())
	}
	q.d.Power()
	if err := p.d.Burn(2); err != api.ErrCut || p.d.On() || !q.d.On() {
		t.Errorf("%v, on %v, the clone's %v", err, p.d.On(), q.d.On())
	}
}
