package device

import (
	"bytes"
	"math/big"
	"testing"

	"escutcheon/api"
)

// told is the chapter's device told another way: what isn't 0 stands in maps, and what a call wants is reckoned ahead of it, not piece by piece.
type told struct {
	slots  map[int]string
	size   int
	ram    map[int]byte
	burnt  map[int]bool
	off    bool
	budget []int // none, or one
	steps  int
}

func wantNew(ram int, a, b []byte) *told {
	return &told{slots: map[int]string{0: string(a), 1: string(b)}, size: ram, ram: map[int]byte{}, burnt: map[int]bool{}}
}

func wantNewError(ram int, a, b []byte) error {
	if ram < 0 || ram > 65536 {
		return api.ErrArg
	}
	if max(len(a), len(b)) > 262144 {
		return api.ErrLong
	}
	return nil
}

func (m *told) slot(i int) ([]byte, error) {
	s, ok := m.slots[i]
	if !ok {
		return nil, api.ErrArg
	}
	return []byte(s), nil
}

func (m *told) flash(i int, b []byte) error {
	if _, ok := m.slots[i]; !ok {
		return api.ErrArg
	}
	if len(b) > 262144 {
		return api.ErrLong
	}
	m.slots[i] = string(b)
	return nil
}

func (m *told) memory() []byte {
	b := make([]byte, m.size)
	for at, x := range m.ram {
		b[at] = x
	}
	return b
}

// spend tells whether there are as many steps: if not, those that there are were done ahead of the cut.
func (m *told) spend(wanted int) bool {
	if len(m.budget) == 0 {
		m.steps += wanted
		return true
	}
	if m.budget[0] < wanted {
		m.steps += m.budget[0]
		m.budget, m.ram, m.off = nil, map[int]byte{}, true
		return false
	}
	m.steps += wanted
	m.budget = []int{m.budget[0] - wanted}
	return true
}

// inside tells it by numbers of any length.
func inside(at, length, size int) bool {
	end := new(big.Int).Add(big.NewInt(int64(at)), big.NewInt(int64(length)))
	return at >= 0 && at <= size && end.Cmp(big.NewInt(int64(size))) <= 0
}

func (m *told) write(at int, b []byte) error {
	if m.off {
		return api.ErrCut
	}
	if !inside(at, len(b), m.size) {
		return api.ErrPlace
	}
	if !m.spend((len(b) + 15) / 16) {
		return api.ErrCut
	}
	for i, x := range b {
		m.ram[at+i] = x
	}
	return nil
}

func (m *told) burn(i int) error {
	if m.off {
		return api.ErrCut
	}
	if i < 0 || i > 63 {
		return api.ErrArg
	}
	if !m.spend(1) {
		return api.ErrCut
	}
	m.burnt[i] = true
	return nil
}

func (m *told) fuses() uint64 {
	sum, one := uint64(0), uint64(1)
	for i := range 64 {
		if m.burnt[i] {
			sum += one
		}
		one += one
	}
	return sum
}

func (m *told) level() int {
	i := 0
	for m.burnt[i] {
		i++
	}
	return i
}

func (m *told) cut(budget int) error {
	if budget < 0 {
		return api.ErrArg
	}
	if m.off {
		return api.ErrCut
	}
	m.budget = []int{budget}
	return nil
}

func (m *told) power() { m.off = false }

func (m *told) clone() *told {
	other := *m
	other.slots, other.ram, other.burnt = map[int]string{}, map[int]byte{}, map[int]bool{}
	for i, s := range m.slots {
		other.slots[i] = s
	}
	for at, x := range m.ram {
		other.ram[at] = x
	}
	for i := range m.burnt {
		other.burnt[i] = true
	}
	return &other
}

// check asks for all that a device tells of itself.
func check(t *testing.T, what string, d *Device, m *told) {
	t.Helper()
	for i := -1; i <= 2; i++ {
		got, err := d.Slot(i)
		want, wantErr := m.slot(i)
		if !bytes.Equal(got, want) || err != wantErr {
			t.Errorf("%s: Slot(%d) = %s, %v; want %s, %v", what, i, short(got), err, short(want), wantErr)
		}
	}
	if got, want := d.Ram(), m.memory(); !bytes.Equal(got, want) {
		t.Errorf("%s: Ram() = %s; want %s", what, short(got), short(want))
	}
	if d.Fuses() != m.fuses() || d.Level() != m.level() {
		t.Errorf("%s: the fuses are %x, the level %d; want %x, %d", what, d.Fuses(), d.Level(), m.fuses(), m.level())
	}
	if d.On() == m.off || d.Steps() != m.steps {
		t.Errorf("%s: On() = %v, Steps() = %d; want %v, %d", what, d.On(), d.Steps(), !m.off, m.steps)
	}
}

// checkLeft asks a clone for its budget, by steps: nothing else tells it.
func checkLeft(t *testing.T, what string, d *Device, m *told) {
	t.Helper()
	const most = 40
	want := most
	switch {
	case m.off:
		want = 0
	case len(m.budget) == 1:
		want = min(m.budget[0], most)
	}
	c, got := d.Clone(), 0
	for got < most && c.Burn(0) == nil {
		got++
	}
	if got != want {
		t.Errorf("%s: there were %d steps left; want %d", what, got, want)
	}
}

func checkAll(t *testing.T, what string, d *Device, m *told) {
	t.Helper()
	check(t, what, d, m)
	checkLeft(t, what, d, m)
}
