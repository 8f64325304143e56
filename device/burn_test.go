package device

import (
	"strconv"
	"testing"

	"escutcheon/api"
)

// P21.3, and P21.2 of what was burnt

func TestEachFuse(t *testing.T) {
	for i := range 64 {
		p := newPair(t, 16, nil, nil)
		p.do(t, writeCall(0, row(16)))
		if err := p.d.Burn(i); err != nil {
			t.Errorf("Burn(%d) = %v", i, err)
		}
		if p.d.Fuses() != uint64(1)<<i || p.d.Steps() != 2 {
			t.Errorf("Burn(%d): %x after %d steps", i, p.d.Fuses(), p.d.Steps())
		}
		level := 0
		if i == 0 {
			level = 1
		}
		if p.d.Level() != level {
			t.Errorf("Burn(%d): level %d", i, p.d.Level())
		}
		if string(p.d.Ram()) != string(row(16)) || !p.d.On() {
			t.Errorf("Burn(%d): %x, on %v", i, p.d.Ram(), p.d.On())
		}
	}
}

func TestOtherFuses(t *testing.T) {
	for name, p := range stands(t, 40) {
		want := error(api.ErrArg)
		if p.m.off {
			want = api.ErrCut
		}
		for _, i := range []int{leastInt, -64, -2, -1, 64, 65, 127, 128, 1 << 32, greatestInt} {
			if err := p.d.Burn(i); err != want {
				t.Errorf("%s: Burn(%d) = %v; want %v", name, i, err, want)
			}
			// No step, whether there is one or not.
			checkAll(t, name+", Burn("+strconv.Itoa(i)+")", p.d, p.m)
		}
	}
}

func TestAllFusesUpwards(t *testing.T) {
	p := newPair(t, 0, nil, nil)
	for i := range 64 {
		p.do(t, burnCall(i))
		if p.d.Level() != i+1 || p.d.Steps() != i+1 {
			t.Errorf("level %d after %d steps; want %d", p.d.Level(), p.d.Steps(), i+1)
		}
		checkAll(t, "upwards", p.d, p.m)
	}
	if p.d.Fuses() != 0xffff_ffff_ffff_ffff || p.d.Level() != 64 {
		t.Errorf("%x, level %d", p.d.Fuses(), p.d.Level())
	}
}

func TestAllFusesDownwards(t *testing.T) {
	p := newPair(t, 0, nil, nil)
	for i := 63; i >= 0; i-- {
		if p.d.Level() != 0 {
			t.Errorf("level %d, but fuse 0 isn't burnt", p.d.Level())
		}
		p.do(t, burnCall(i))
	}
	if p.d.Level() != 64 || p.d.Steps() != 64 {
		t.Errorf("level %d after %d steps", p.d.Level(), p.d.Steps())
	}
	checkAll(t, "downwards", p.d, p.m)
}

// The level stops ahead of the first fuse that is left out.
func TestFuseLeftOut(t *testing.T) {
	for out := range 64 {
		p := newPair(t, 0, nil, nil)
		for i := range 64 {
			if i != out {
				p.do(t, burnCall(i))
			}
		}
		if p.d.Level() != out || p.d.Fuses() != ^(uint64(1)<<out) || p.d.Steps() != 63 {
			t.Errorf("all but %d: level %d, %x, %d steps", out, p.d.Level(), p.d.Fuses(), p.d.Steps())
		}
		p.do(t, burnCall(out))
		if p.d.Level() != 64 {
			t.Errorf("all, %d the last: level %d", out, p.d.Level())
		}
		check(t, "left out", p.d, p.m)
	}
}

func TestTwoFusesLeftOut(t *testing.T) {
	for first := range 64 {
		for second := first + 1; second < 64; second++ {
			p := newPair(t, 0, nil, nil)
			for i := range 64 {
				if i != first && i != second {
					p.do(t, burnCall(i))
				}
			}
			if p.d.Level() != first {
				t.Errorf("all but %d and %d: level %d", first, second, p.d.Level())
			}
			p.do(t, burnCall(first))
			if p.d.Level() != second {
				t.Errorf("all but %d: level %d", second, p.d.Level())
			}
		}
	}
}

// A fuse that is burnt stays so, and the step is one.
func TestBurntAlready(t *testing.T) {
	for _, i := range []int{0, 1, 31, 32, 63} {
		p := newPair(t, 0, nil, nil)
		for k := range 5 {
			p.do(t, burnCall(i))
			if p.d.Fuses() != uint64(1)<<i || p.d.Steps() != k+1 {
				t.Errorf("Burn(%d) for the %d. time: %x after %d steps", i, k+1, p.d.Fuses(), p.d.Steps())
			}
		}
		p.do(t, cutCall(1))
		p.do(t, burnCall(i))
		if !p.d.On() || p.d.Steps() != 6 {
			t.Errorf("on %v after %d steps", p.d.On(), p.d.Steps())
		}
		if err := p.d.Burn(i); err != api.ErrCut || p.d.On() || p.d.Steps() != 6 || p.d.Fuses() != uint64(1)<<i {
			t.Errorf("%v, on %v, %x after %d steps", err, p.d.On(), p.d.Fuses(), p.d.Steps())
		}
	}
}

func TestCutAheadOfABurn(t *testing.T) {
	for i := range 64 {
		p := newPair(t, 20, row(2), row(3))
		p.do(t, writeCall(0, row(20)))
		p.do(t, burnCall((i+1)%64))
		p.do(t, cutCall(0))
		if err := p.d.Burn(i); err != api.ErrCut {
			t.Errorf("Burn(%d) = %v", i, err)
		}
		_ = p.m.burn(i)
		if p.d.Fuses() != uint64(1)<<((i+1)%64) || p.d.On() || !isZero(p.d.Ram()) || p.d.Steps() != 3 {
			t.Errorf("Burn(%d): %x, on %v, %x, %d steps", i, p.d.Fuses(), p.d.On(), p.d.Ram(), p.d.Steps())
		}
		checkAll(t, "ahead of "+strconv.Itoa(i), p.d, p.m)
		p.do(t, powerCall())
		p.do(t, burnCall(i))
		checkAll(t, "behind it", p.d, p.m)
	}
}

// The fuse is asked ahead of a step, and whether the power is on ahead of the fuse.
func TestFusesAreAskedAheadOfSteps(t *testing.T) {
	p := newPair(t, 4, nil, nil)
	p.do(t, cutCall(0))
	for _, i := range []int{-1, 64} {
		if err := p.d.Burn(i); err != api.ErrArg || !p.d.On() {
			t.Errorf("Burn(%d) = %v, on %v", i, err, p.d.On())
		}
	}
	p.do(t, burnCall(0))
	for _, i := range []int{-1, 64, 0} {
		if err := p.d.Burn(i); err != api.ErrCut || p.d.On() {
			t.Errorf("Burn(%d) = %v, on %v", i, err, p.d.On())
		}
	}
	checkAll(t, "off", p.d, p.m)
}
