package device

import (
	"math/rand"
	"testing"

	"escutcheon/api"
)

// P21.6, P1, and all promises over many calls in any order

// follows tells whether a device may stand so behind one call: the fuses never go back, and when the power went, the memory is all 0.
func follows(t *testing.T, what string, d *Device, fuses uint64, steps int, wasOn bool) {
	t.Helper()
	if d.Fuses()&fuses != fuses {
		t.Errorf("%s: the fuses went back from %x to %x", what, fuses, d.Fuses())
	}
	if d.Level() < onesTold(fuses) || d.Steps() < steps {
		t.Errorf("%s: the level is %d, ahead of it the fuses were %x; %d steps, ahead of it %d", what, d.Level(), fuses, d.Steps(), steps)
	}
	if (!d.On() || !wasOn) && !isZero(d.Ram()) {
		t.Errorf("%s: the power went, but the memory is %s", what, short(d.Ram()))
	}
}

// onesTold is a level, told bit by bit.
func onesTold(fuses uint64) int {
	for i := range 64 {
		if fuses>>i&1 == 0 {
			return i
		}
	}
	return 64
}

func (p pair) run(t *testing.T, what string, c call) error {
	t.Helper()
	fuses, steps, wasOn := p.d.Fuses(), p.d.Steps(), p.d.On()
	err := p.do(t, c)
	follows(t, what, p.d, fuses, steps, wasOn)
	return err
}

// All runs of four calls from a few: on a memory of 20 bytes, of two steps.
func TestAllShortRuns(t *testing.T) {
	calls := []call{
		writeCall(0, row(20)), writeCall(4, row(16)), writeCall(20, nil), writeCall(5, row(16)), burnCall(0), burnCall(1), burnCall(64),
		cutCall(0), cutCall(1), cutCall(2), cutCall(-1), powerCall(), flashCall(0, row(2)), flashCall(2, nil),
	}
	runs := 0
	var goOn func(p pair, what string, left int)
	goOn = func(p pair, what string, left int) {
		if left == 0 {
			runs++
			checkLeft(t, what, p.d, p.m)
			return
		}
		for _, c := range calls {
			q := p.clone()
			q.run(t, what+c.name, c)
			check(t, what+c.name, q.d, q.m)
			goOn(q, what+c.name+"; ", left-1)
		}
	}
	goOn(newPair(t, 20, nil, row(1)), "", 4)
	if runs != 14*14*14*14 {
		t.Errorf("%d runs", runs)
	}
}

func anyInt(r *rand.Rand) int {
	switch r.Intn(6) {
	case 0:
		return int(r.Uint64())
	case 1:
		return -r.Intn(70)
	case 2:
		return 1 << r.Intn(64)
	}
	return r.Intn(70)
}

func anyBytes(r *rand.Rand) []byte {
	b := make([]byte, r.Intn(50))
	r.Read(b)
	return b
}

func anyCall(r *rand.Rand, ram int) call {
	switch r.Intn(14) {
	case 0:
		return cutCall(anyInt(r))
	case 1:
		return cutCall(r.Intn(12))
	case 2, 3, 4:
		return powerCall()
	case 5:
		return flashCall(r.Intn(2), anyBytes(r))
	case 6:
		return flashCall(anyInt(r), anyBytes(r))
	case 7:
		return burnCall(anyInt(r))
	case 8:
		return burnCall(r.Intn(64))
	case 9:
		return burnCall(r.Intn(5))
	case 10:
		return writeCall(anyInt(r), anyBytes(r))
	}
	at := r.Intn(ram + 1)
	return writeCall(at, row(r.Intn(ram-at+1)))
}

// A few devices, of which any one may be changed, or put in the place of another by its clone.
func TestLongRuns(t *testing.T) {
	r := rand.New(rand.NewSource(21))
	cuts, times := 0, map[error]int{}
	for range 100 {
		ram := r.Intn(100)
		l := make([]pair, 4)
		for i := range l {
			l[i] = newPair(t, ram, anyBytes(r), anyBytes(r))
		}
		for range 400 {
			i := r.Intn(len(l))
			if r.Intn(20) == 0 {
				l[i] = l[r.Intn(len(l))].clone()
				continue
			}
			c := anyCall(r, ram)
			wasOn := l[i].d.On()
			times[l[i].run(t, c.name, c)]++
			if wasOn && !l[i].d.On() {
				cuts++
			}
			for _, p := range l {
				check(t, c.name, p.d, p.m)
			}
			checkLeft(t, c.name, l[i].d, l[i].m)
		}
	}
	for _, err := range []error{nil, api.ErrArg, api.ErrCut, api.ErrPlace} {
		if times[err] < 500 {
			t.Errorf("%v: %d times", err, times[err])
		}
	}
	if cuts < 500 {
		t.Errorf("%d cuts", cuts)
	}
}

// T3: whenever the power goes while a start writes and burns, the fuses lie between what they were and what they are to be, and the next one finishes.
func TestStartsBehindCuts(t *testing.T) {
	image := row(70)
	start := func(p pair, version int) bool {
		for _, c := range []call{writeCall(0, make([]byte, 100)), writeCall(16, image)} {
			p.run(t, c.name, c)
		}
		for i := p.d.Level(); p.d.On() && i < version; i++ {
			p.run(t, "a fuse", burnCall(i))
		}
		return p.d.On()
	}
	for was := range 5 {
		for cut := 0; cut <= 7+5+6; cut++ {
			p := newPair(t, 100, nil, nil)
			for i := range was {
				p.do(t, burnCall(i))
			}
			p.do(t, cutCall(cut))
			whole := start(p, 5)
			if whole != (cut >= 7+5+5-was) {
				t.Errorf("level %d, cut at %d: finished is %v", was, cut, whole)
			}
			if p.d.Level() < was || p.d.Level() > 5 || p.d.Fuses() != 1<<p.d.Level()-1 {
				t.Errorf("level %d, cut at %d: level %d, fuses %x", was, cut, p.d.Level(), p.d.Fuses())
			}
			if !whole && !isZero(p.d.Ram()) {
				t.Errorf("level %d, cut at %d: %x is left", was, cut, p.d.Ram())
			}
			p.do(t, powerCall())
			p.do(t, cutCall(1000))
			if !start(p, 5) || p.d.Level() != 5 || string(p.d.Ram()[16:86]) != string(image) {
				t.Errorf("level %d, cut at %d, then again: level %d, %x", was, cut, p.d.Level(), p.d.Ram())
			}
			checkAll(t, "behind it", p.d, p.m)
		}
	}
}
