package device

import (
	"bytes"
	"math"
	"strconv"
	"testing"

	"escutcheon/api"
)

const (
	leastInt    = math.MinInt
	greatestInt = math.MaxInt
)

// row is bytes of which none is 0, and no two beside each other are the same.
func row(length int) []byte {
	b := make([]byte, length)
	for i := range b {
		b[i] = byte(i%251) + 1
	}
	return b
}

// long is bytes that are all the same.
func long(length int, x byte) []byte { return bytes.Repeat([]byte{x}, length) }

func short(b []byte) string {
	const most = 80
	s := strconv.Itoa(len(b)) + " bytes "
	for i, x := range b {
		if i == most {
			return s + ".."
		}
		s += strconv.FormatInt(int64(x)+256, 16)[1:]
	}
	return s
}

func isZero(b []byte) bool { return len(bytes.Trim(b, "\x00")) == 0 }

// pair is a device, and the same one told another way.
type pair struct {
	d *Device
	m *told
}

func newPair(t *testing.T, ram int, a, b []byte) pair {
	t.Helper()
	d, err := New(ram, a, b)
	if d == nil || err != nil {
		t.Fatalf("New(%d, %s, %s) = %v, %v", ram, short(a), short(b), d, err)
	}
	return pair{d, wantNew(ram, a, b)}
}

func (p pair) clone() pair { return pair{p.d.Clone(), p.m.clone()} }

// call is one that changes a device, or is to be refused.
type call struct {
	name string
	d    func(d *Device) error
	m    func(m *told) error
}

func (p pair) do(t *testing.T, c call) error {
	t.Helper()
	got, want := c.d(p.d), c.m(p.m)
	if got != want {
		t.Errorf("%s = %v; want %v", c.name, got, want)
	}
	return got
}

func flashCall(i int, b []byte) call {
	return call{
		"Flash(" + strconv.Itoa(i) + ", " + short(b) + ")",
		func(d *Device) error { return d.Flash(i, b) },
		func(m *told) error { return m.flash(i, b) },
	}
}

func writeCall(at int, b []byte) call {
	return call{
		"Write(" + strconv.Itoa(at) + ", " + short(b) + ")",
		func(d *Device) error { return d.Write(at, b) },
		func(m *told) error { return m.write(at, b) },
	}
}

func burnCall(i int) call {
	return call{
		"Burn(" + strconv.Itoa(i) + ")",
		func(d *Device) error { return d.Burn(i) },
		func(m *told) error { return m.burn(i) },
	}
}

func cutCall(budget int) call {
	return call{
		"Cut(" + strconv.Itoa(budget) + ")",
		func(d *Device) error { return d.Cut(budget) },
		func(m *told) error { return m.cut(budget) },
	}
}

func powerCall() call {
	return call{
		"Power()",
		func(d *Device) error { d.Power(); return nil },
		func(m *told) error { m.power(); return nil },
	}
}

// stands are devices that stand in many ways: how each came to be is its name.
func stands(t *testing.T, ram int) map[string]pair {
	t.Helper()
	l := map[string]pair{}
	lay := func(name string, calls ...call) {
		p := newPair(t, ram, row(5), row(33))
		for _, c := range calls {
			p.do(t, c)
		}
		l[name] = p
	}
	full := writeCall(0, row(ram))
	lay("new")
	lay("written", full)
	lay("burnt", full, burnCall(0), burnCall(1), burnCall(5))
	lay("no step left", full, burnCall(2), cutCall(0))
	lay("one step left", full, burnCall(0), cutCall(1))
	lay("many steps left", full, cutCall(1000))
	lay("off", full, burnCall(0), cutCall(0), burnCall(1))
	lay("off, cut in a write", burnCall(3), cutCall(1), writeCall(0, row(ram)))
	lay("on again", full, burnCall(0), cutCall(0), burnCall(1), powerCall())
	lay("written again", full, cutCall(0), burnCall(1), powerCall(), full, burnCall(0))
	return l
}

// checkNil is for what is answered beside an error.
func checkNil(t *testing.T, what string, b []byte, err error, want api.Code) {
	t.Helper()
	if len(b) != 0 || err != want {
		t.Errorf("%s = %s, %v; want nothing, %v", what, short(b), err, want)
	}
}
