package device

import (
	"bytes"
	"go/ast"
	"go/parser"
	"go/token"
	"os"
	"slices"
	"strconv"
	"strings"
	"testing"

	"escutcheon/api"
)

// P21.5, R2

const around = 20

// roomy lays bytes into greater memory: who appends to them writes behind them.
func roomy(l []byte, mark byte) (all, inner []byte) {
	marks := bytes.Repeat([]byte{mark}, around)
	all = slices.Concat(marks, l, marks)
	return all, all[around : len(all)-around]
}

func fill(b []byte, x byte) {
	for i := range b {
		b[i] = x
	}
}

func TestWhatIsHandedInIsNeitherChangedNorKept(t *testing.T) {
	for _, size := range []int{0, 1, 16, 33, 1000} {
		for _, mark := range []byte{0, 0xa5, 0xff} {
			m := wantNew(40, row(size), long(size, 3))
			rooms := make([][]byte, 5)
			inner := make([][]byte, 5)
			for i, b := range [][]byte{row(size), long(size, 3), row(min(size, 33)), long(size, 4), row(size)} {
				rooms[i], inner[i] = roomy(b, mark)
			}
			was := make([][]byte, 5)
			for i, b := range rooms {
				was[i] = bytes.Clone(b)
			}
			d, err := New(40, inner[0], inner[1])
			if err != nil {
				t.Fatal(err)
			}
			checkAll(t, "roomy bytes", d, m)
			if d.Write(3, inner[2]) != nil || m.write(3, row(min(size, 33))) != nil {
				t.Error("not written")
			}
			checkAll(t, "roomy bytes, written", d, m)
			for i := range rooms {
				if !bytes.Equal(rooms[i], was[i]) {
					t.Errorf("%d bytes, or what lies around them, have changed", size)
				}
				fill(rooms[i], 0x77)
			}
			checkAll(t, "what was handed in was spoilt", d, m)
			fill(inner[3], 4)
			fill(inner[4], 9)
			if d.Flash(0, inner[3]) != nil || d.Flash(1, inner[4]) != nil || m.flash(0, long(size, 4)) != nil || m.flash(1, long(size, 9)) != nil {
				t.Error("not laid")
			}
			checkAll(t, "laid", d, m)
			c := d.Clone()
			for i := range rooms {
				fill(rooms[i], 0x76)
			}
			checkAll(t, "what was handed in was spoilt", d, m)
			checkAll(t, "its clone", c, m)
			_ = d.Write(0, row(40))
			_ = d.Cut(0)
			_ = d.Burn(0)
			for i := range rooms {
				if !bytes.Equal(rooms[i], long(len(rooms[i]), 0x76)) {
					t.Errorf("room %d is the device's memory", i)
				}
			}
		}
	}
}

// One row is handed in three times: the two slots and the memory don't share it.
func TestOneRowForAll(t *testing.T) {
	b := row(32)
	d, err := New(32, b, b)
	if err != nil || d.Write(0, b) != nil {
		t.Fatal(err)
	}
	m := wantNew(32, row(32), row(32))
	_ = m.write(0, row(32))
	fill(b, 0)
	checkAll(t, "one row", d, m)
	if d.Cut(0) != nil || d.Burn(0) != api.ErrCut {
		t.Error("not cut")
	}
	_ = m.cut(0)
	_ = m.burn(0)
	checkAll(t, "one row, cut", d, m)
}

func TestWhatIsAnsweredIsNewMemory(t *testing.T) {
	for name, p := range stands(t, 40) {
		clone := p.clone()
		for range 2 {
			for i := range 2 {
				b, err := p.d.Slot(i)
				if err != nil {
					t.Fatal(err)
				}
				again, _ := p.d.Slot(i)
				fill(b[:cap(b)], 0x5a)
				if want, _ := p.m.slot(i); !bytes.Equal(again, want) {
					t.Errorf("%s: Slot(%d): two answers share memory", name, i)
				}
				checkAll(t, name+", an answer spoilt", p.d, p.m)
			}
			one, two := p.d.Ram(), p.d.Ram()
			fill(one[:cap(one)], 0x5a)
			if !bytes.Equal(two, p.m.memory()) {
				t.Errorf("%s: Ram(): two answers share memory", name)
			}
			checkAll(t, name+", a memory spoilt", p.d, p.m)
			checkAll(t, name+", its clone", clone.d, clone.m)
		}
	}
}

// What was answered stays as it was then.
func TestWhatWasAnsweredStays(t *testing.T) {
	for name, p := range stands(t, 40) {
		ram, wantRam := p.d.Ram(), p.m.memory()
		slots, wantSlots := [2][]byte{}, [2][]byte{}
		for i := range slots {
			slots[i], _ = p.d.Slot(i)
			wantSlots[i], _ = p.m.slot(i)
		}
		stays := func(what string) {
			t.Helper()
			if !bytes.Equal(ram, wantRam) {
				t.Errorf("%s: %s has changed the memory that was answered", name, what)
			}
			for i := range slots {
				if !bytes.Equal(slots[i], wantSlots[i]) {
					t.Errorf("%s: %s has changed the bytes of slot %d that were answered", name, what, i)
				}
			}
		}
		for _, c := range []call{powerCall(), writeCall(0, long(40, 0x33)), flashCall(0, long(5, 1)), flashCall(1, long(33, 2)), flashCall(0, long(4, 9)), cutCall(0), burnCall(0), powerCall(), writeCall(1, row(39))} {
			p.do(t, c)
			stays(c.name)
		}
	}
}

// An answer, handed in again, is no more the device's than any other bytes.
func TestAnswersHandedInAgain(t *testing.T) {
	p := newPair(t, 40, row(10), row(20))
	p.do(t, writeCall(0, row(40)))
	ram := p.d.Ram()
	slot, _ := p.d.Slot(1)
	if p.d.Write(0, ram) != nil || p.d.Flash(0, slot) != nil || p.d.Flash(1, ram) != nil {
		t.Error("refused")
	}
	_ = p.m.write(0, row(40))
	_ = p.m.flash(0, row(20))
	_ = p.m.flash(1, row(40))
	fill(ram, 0)
	fill(slot, 0)
	checkAll(t, "answers handed in again", p.d, p.m)
}

// A device knows nothing of another one.
func TestDevicesAreTwo(t *testing.T) {
	b := row(10)
	one := newPair(t, 40, b, b)
	two := newPair(t, 40, b, b)
	for _, c := range changes() {
		one.do(t, c)
		checkAll(t, c.name, one.d, one.m)
		checkAll(t, c.name+" of another", two.d, two.m)
	}
}

// Answers can't show that nothing is kept beside a device: the text can.

func readTexts(t *testing.T) []*ast.File {
	t.Helper()
	entries, err := os.ReadDir(".")
	if err != nil {
		t.Fatal(err)
	}
	var l []*ast.File
	for _, e := range entries {
		if !strings.HasSuffix(e.Name(), ".go") || strings.HasSuffix(e.Name(), "_test.go") {
			continue
		}
		f, err := parser.ParseFile(token.NewFileSet(), e.Name(), nil, 0)
		if err != nil {
			t.Fatal(err)
		}
		l = append(l, f)
	}
	return l
}

func TestKeepsNothingBesideADevice(t *testing.T) {
	for _, f := range readTexts(t) {
		for _, d := range f.Decls {
			if g, ok := d.(*ast.GenDecl); ok && g.Tok == token.VAR {
				t.Error("a variable at package level")
			}
		}
	}
}

func TestStandsOnApiAlone(t *testing.T) {
	for _, f := range readTexts(t) {
		for _, i := range f.Imports {
			path, err := strconv.Unquote(i.Path.Value)
			if err != nil || strings.HasPrefix(path, "escutcheon/") && path != "escutcheon/api" {
				t.Errorf("imports %s", i.Path.Value)
			}
		}
	}
}
