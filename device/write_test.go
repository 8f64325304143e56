package device

import (
	"bytes"
	"strconv"
	"testing"

	"escutcheon/api"
)

// P21.3, and P21.2 of what was written

func TestWritePieces(t *testing.T) {
	for _, one := range []struct{ size, steps int }{
		{0, 0}, {1, 1}, {2, 1}, {15, 1}, {16, 1}, {17, 2}, {31, 2}, {32, 2}, {33, 3}, {47, 3}, {48, 3}, {49, 4},
	} {
		for _, at := range []int{0, 1, 8, 15, 16, 17, 50, 64 - one.size} {
			if at < 0 || at+one.size > 64 {
				continue
			}
			d, err := New(64, nil, nil)
			if err != nil {
				t.Fatal(err)
			}
			if err := d.Write(at, row(one.size)); err != nil {
				t.Errorf("Write(%d, %d bytes) = %v", at, one.size, err)
			}
			if d.Steps() != one.steps {
				t.Errorf("Write(%d, %d bytes): %d steps; want %d", at, one.size, d.Steps(), one.steps)
			}
			want := append(append(make([]byte, at), row(one.size)...), make([]byte, 64-at-one.size)...)
			if !bytes.Equal(d.Ram(), want) {
				t.Errorf("Write(%d, %d bytes): the memory is %x; want %x", at, one.size, d.Ram(), want)
			}
			if !d.On() || d.Fuses() != 0 {
				t.Errorf("Write(%d, %d bytes): on %v, fuses %x", at, one.size, d.On(), d.Fuses())
			}
		}
	}
}

func TestWholeMemoryIsWritten(t *testing.T) {
	for _, one := range []struct{ ram, steps int }{{0, 0}, {1, 1}, {16, 1}, {17, 2}, {65535, 4096}, {65536, 4096}} {
		p := newPair(t, one.ram, nil, nil)
		p.do(t, writeCall(0, row(one.ram)))
		if !bytes.Equal(p.d.Ram(), row(one.ram)) || p.d.Steps() != one.steps {
			t.Errorf("a memory of %d bytes is %s, after %d steps", one.ram, short(p.d.Ram()), p.d.Steps())
		}
		p.do(t, writeCall(0, make([]byte, one.ram)))
		if !isZero(p.d.Ram()) || p.d.Steps() != 2*one.steps {
			t.Errorf("a memory of %d bytes, written with 0, is %s, after %d steps", one.ram, short(p.d.Ram()), p.d.Steps())
		}
		checkAll(t, strconv.Itoa(one.ram), p.d, p.m)
	}
}

// All places and sizes about a small memory, on devices that stand in many ways.
func TestPlaces(t *testing.T) {
	for _, ram := range []int{0, 1, 16, 20, 35} {
		for name, p := range stands(t, ram) {
			for at := -2; at <= ram+2; at++ {
				for size := 0; size <= ram+3; size++ {
					q := p.clone()
					c := writeCall(at, bytes.Repeat([]byte{0xee}, size))
					q.do(t, c)
					check(t, name+", "+c.name, q.d, q.m)
				}
			}
		}
	}
}

func TestWritesBesideTheMemory(t *testing.T) {
	for _, ram := range []int{0, 1, 16, 40, 65536} {
		p := newPair(t, ram, row(1), row(2))
		p.do(t, writeCall(0, row(ram)))
		steps := p.d.Steps()
		for _, one := range []struct{ at, size int }{
			{-1, 0}, {-1, 1}, {-1, 2}, {-16, 16}, {-ram - 1, 1}, {leastInt, 0}, {leastInt, 1}, {leastInt + 1, ram},
			{ram, 1}, {ram + 1, 0}, {ram + 1, 1}, {ram + 16, 16}, {0, ram + 1}, {0, ram + 16},
			{greatestInt, 0}, {greatestInt, 1}, {greatestInt, ram + 1}, {greatestInt - 15, 16}, {greatestInt - 1, 2},
			{1 << 32, 0}, {1 << 32, 1}, {-1 << 32, 1}, {65536*4 + 1, 1},
		} {
			if err := p.d.Write(one.at, row(one.size)); err != api.ErrPlace {
				t.Errorf("%d bytes: Write(%d, %d bytes) = %v", ram, one.at, one.size, err)
			}
		}
		if ram > 0 {
			for _, at := range []int{0, 1, ram / 2, ram - 1, ram} {
				if err := p.d.Write(at, row(ram-at+1)); err != api.ErrPlace {
					t.Errorf("%d bytes: one too many at %d: %v", ram, at, err)
				}
			}
		}
		if p.d.Steps() != steps || !p.d.On() {
			t.Errorf("%d bytes: %d steps, on %v", ram, p.d.Steps()-steps, p.d.On())
		}
		checkAll(t, strconv.Itoa(ram), p.d, p.m)
	}
}

func TestWritesUpToTheEnd(t *testing.T) {
	for _, ram := range []int{0, 1, 15, 16, 17, 40, 65536} {
		for size := 0; size <= min(ram, 50); size++ {
			p := newPair(t, ram, nil, nil)
			p.do(t, writeCall(ram-size, row(size)))
			if b := p.d.Ram(); !isZero(b[:ram-size]) || !bytes.Equal(b[ram-size:], row(size)) {
				t.Errorf("%d bytes: the last %d are %s", ram, size, short(b[ram-size:]))
			}
			if p.d.Steps() != (size+15)/16 {
				t.Errorf("%d bytes, the last %d written: %d steps", ram, size, p.d.Steps())
			}
		}
	}
}

// A write lays over what was there, and over nothing else.
func TestWritesOverOneAnother(t *testing.T) {
	p := newPair(t, 40, nil, nil)
	for _, c := range []call{
		writeCall(0, row(40)), writeCall(10, long(20, 0xaa)), writeCall(12, make([]byte, 16)), writeCall(39, long(1, 0xbb)), writeCall(0, long(1, 0)),
	} {
		p.do(t, c)
		checkAll(t, c.name, p.d, p.m)
	}
	want := row(40)
	copy(want[10:], long(20, 0xaa))
	copy(want[12:], make([]byte, 16))
	want[39], want[0] = 0xbb, 0
	if !bytes.Equal(p.d.Ram(), want) || p.d.Steps() != 3+2+1+1+1 {
		t.Errorf("%x after %d steps; want %x", p.d.Ram(), p.d.Steps(), want)
	}
}

func TestNoBytesAreNoStep(t *testing.T) {
	for name, p := range stands(t, 40) {
		for _, none := range [][]byte{nil, {}} {
			for _, at := range []int{0, 1, 16, 39, 40} {
				was := p.d.Steps()
				want := error(nil)
				if p.m.off {
					want = api.ErrCut
				}
				if err := p.d.Write(at, none); err != want || p.d.Steps() != was {
					t.Errorf("%s: Write(%d, none) = %v, %d steps", name, at, err, p.d.Steps()-was)
				}
				checkAll(t, name, p.d, p.m)
			}
		}
	}
}

// The place is asked ahead of a step, and whether the power is on ahead of the place.
func TestPlacesAreAskedAheadOfSteps(t *testing.T) {
	p := newPair(t, 40, nil, nil)
	p.do(t, writeCall(0, row(40)))
	p.do(t, cutCall(0))
	for _, c := range []call{writeCall(-1, row(16)), writeCall(0, row(41)), writeCall(41, nil), writeCall(greatestInt, row(1))} {
		if err := c.d(p.d); err != api.ErrPlace || !p.d.On() {
			t.Errorf("%s = %v, on %v", c.name, err, p.d.On())
		}
	}
	checkAll(t, "no step left", p.d, p.m)
	p.do(t, writeCall(40, nil))
	if !p.d.On() {
		t.Error("no bytes were a step")
	}
	p.do(t, writeCall(0, row(1)))
	for _, c := range []call{writeCall(-1, row(16)), writeCall(0, row(41)), writeCall(41, nil), writeCall(greatestInt, row(1)), writeCall(0, nil), writeCall(0, row(5))} {
		if err := c.d(p.d); err != api.ErrCut || p.d.On() {
			t.Errorf("%s = %v, on %v", c.name, err, p.d.On())
		}
	}
	checkAll(t, "off", p.d, p.m)
}

// One cut at each of a write's steps: what was written ahead of it is forgotten with all that was there.
func TestCutInTheMidstOfAWrite(t *testing.T) {
	for size := 1; size <= 70; size++ {
		wanted := (size + 15) / 16
		for budget := 0; budget <= wanted+1; budget++ {
			p := newPair(t, 80, row(3), nil)
			p.do(t, writeCall(0, row(80)))
			p.do(t, burnCall(0))
			was := p.d.Steps()
			p.do(t, cutCall(budget))
			err := p.d.Write(5, long(size, 0xcc))
			what := strconv.Itoa(size) + " bytes with a budget of " + strconv.Itoa(budget)
			if want := p.m.write(5, long(size, 0xcc)); err != want {
				t.Errorf("%s: %v; want %v", what, err, want)
			}
			if budget < wanted {
				if err != api.ErrCut || p.d.On() || !isZero(p.d.Ram()) || p.d.Steps() != was+budget || p.d.Fuses() != 1 {
					t.Errorf("%s: %v, on %v, %s, %d steps", what, err, p.d.On(), short(p.d.Ram()), p.d.Steps()-was)
				}
			} else if err != nil || !p.d.On() || p.d.Steps() != was+wanted {
				t.Errorf("%s: %v, on %v, %d steps", what, err, p.d.On(), p.d.Steps()-was)
			}
			checkAll(t, what, p.d, p.m)
		}
	}
}
