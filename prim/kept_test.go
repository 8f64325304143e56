package prim

import (
	"bytes"
	"go/ast"
	"go/parser"
	"go/token"
	"os"
	"slices"
	"strconv"
	"strings"
	"testing"

	"escutcheon/api"
)

// P13.7, R2

const around = 80

// roomy lays items into greater memory: who appends to them writes behind them.
func roomy[T any](l []T, mark T) (all, inner []T) {
	marks := slices.Repeat([]T{mark}, around)
	all = slices.Concat(marks, l, marks)
	return all, all[around : len(all)-around]
}

// reader is a call that reads a body: what it answers, told as bytes that are a copy of it, and the
// answer's own memory where it has some.
type reader struct {
	call func([]byte) (told string, memory []byte)
	good []string
	bad  []string
}

func tellBytes(b []byte, err error) (string, []byte) { return told(string(b), err), b }

func told(s string, err error) string {
	if err != nil {
		return s + err.Error()
	}
	return s
}

func readers() map[string]reader {
	utc, long := "3236313131383039333030305a", "32303530303130313030303030305a"
	return map[string]reader{
		"Number": {
			func(b []byte) (string, []byte) { return tellBytes(Number(b)) },
			[]string{"00", "05", "00 80", "7f 00 00", "12 34 56 78 9a bc de", "00 ff" + strings.Repeat("a5", 63)},
			[]string{"", "80", "00 05", "01" + strings.Repeat("00", 64)},
		},
		"NumberOf": {
			func(b []byte) (string, []byte) { return tellBytes(NumberOf(b)) },
			[]string{"", "00", "00 00 00", "05", "80", "00 05", "00 00 80 01", "7f 00 00", "ff" + strings.Repeat("a5", 63)},
			[]string{"01" + strings.Repeat("00", 64)},
		},
		"Small": {
			func(b []byte) (string, []byte) { n, err := Small(b); return told(strconv.Itoa(n), err), nil },
			[]string{"00", "05", "00 80", "7f ff ff ff"},
			[]string{"", "80", "00 05", "00 80 00 00 00"},
		},
		"Oid": {
			func(b []byte) (string, []byte) { l, err := Oid(b); return told(tellNumbers(l), err), nil },
			[]string{"2a 86 48 ce 3d 02 01", "00", "55 1d 13", "88 37 03"},
			[]string{"", "80 01", "2a 86", "2a ff ff ff ff 7f", strings.Repeat("00", 16)},
		},
		"Bits": {
			func(b []byte) (string, []byte) {
				all, n, err := Bits(b)
				return told(string(all)+strconv.Itoa(n), err), all
			},
			[]string{"00", "03 f8", "00 04 01 02 03", "07 ff 80"},
			[]string{"", "01", "08 00", "03 f1"},
		},
		"Truth": {
			func(b []byte) (string, []byte) { v, err := Truth(b); return told(strconv.FormatBool(v), err), nil },
			[]string{"00", "ff"},
			[]string{"", "01", "00 00"},
		},
		"Text": {
			func(b []byte) (string, []byte) { s, err := Text(b); return told(s, err), nil },
			[]string{"20", "61 62 63", strings.Repeat("7e", 64)},
			[]string{"", "1f", strings.Repeat("7e", 65)},
		},
		"Time under TagUTC": {
			func(b []byte) (string, []byte) {
				n, err := Time(api.TagUTC, b)
				return told(strconv.FormatInt(n, 10), err), nil
			},
			[]string{utc},
			[]string{"", long, "323631333138303933303030 5a"},
		},
		"Time under TagTime": {
			func(b []byte) (string, []byte) {
				n, err := Time(api.TagTime, b)
				return told(strconv.FormatInt(n, 10), err), nil
			},
			[]string{long},
			[]string{"", utc, "32303439313233313030303030305a"},
		},
	}
}

func tellNumbers(l []uint64) string {
	var all []string
	for _, n := range l {
		all = append(all, strconv.FormatUint(n, 10))
	}
	return strings.Join(all, " ")
}

func flip(b []byte) {
	for i := range b {
		b[i] ^= 0xff
	}
}

func TestBodiesStay(t *testing.T) {
	for name, r := range readers() {
		for _, s := range append(r.good, r.bad...) {
			want, _ := r.call(bytesFrom(s))
			for _, mark := range []byte{0, 1, 0x7f, 0x80, 0xff, '0', 'Z'} {
				all, body := roomy(bytesFrom(s), mark)
				was := slices.Clone(all)
				got, memory := r.call(body)
				if !bytes.Equal(all, was) {
					t.Errorf("%s(%s): the body, or what lies around it, has changed", name, s)
				}
				if got != want {
					t.Errorf("%s(%s) hangs on what lies around", name, s)
				}
				// Whoever changes the answer, or the room behind it, changes nothing that was handed in.
				flip(memory[:cap(memory)])
				if !bytes.Equal(all, was) {
					t.Errorf("%s(%s) shares memory with its answer", name, s)
				}
				flip(memory[:cap(memory)])
				kept := string(memory)
				flip(all)
				if string(memory) != kept {
					t.Errorf("%s(%s): the answer changes with what was handed in", name, s)
				}
				flip(all)
				if again, _ := r.call(body); again != want {
					t.Errorf("%s(%s): another answer than before", name, s)
				}
			}
		}
	}
}

// No two answers share memory: each is changed, and the next is as the first was.
func TestAnswersAreNewMemory(t *testing.T) {
	for name, r := range readers() {
		for _, s := range r.good {
			body := bytesFrom(s)
			want, first := r.call(body)
			_, second := r.call(body)
			kept := string(second)
			flip(first[:cap(first)])
			if string(second) != kept {
				t.Errorf("%s(%s): two answers share memory", name, s)
			}
			if got, _ := r.call(body); got != want {
				t.Errorf("%s(%s): an answer that was changed is told again", name, s)
			}
		}
	}
	_, first, _ := TimeOf(0)
	_, second, _ := TimeOf(0)
	flip(first[:cap(first)])
	checkTimeOf(t, 0, api.TagUTC, "700101000000Z")
	if string(second) != "700101000000Z" {
		t.Error("TimeOf: two answers share memory")
	}
	small, _ := SmallOf(0)
	other, _ := SmallOf(0)
	flip(small[:cap(small)])
	checkSmallOf(t, 0, []byte{0})
	if !bytes.Equal(other, []byte{0}) {
		t.Error("SmallOf: two answers share memory")
	}
}

// The text of Text is a string of its own, and the numbers of Oid are a list of its own.
func TestTextsAndOidsStay(t *testing.T) {
	body := []byte("device 7")
	text, err := Text(body)
	flip(body)
	if err != nil || text != "device 7" {
		t.Error(text, err)
	}
	body = bytesFrom("2a 86 48 ce 3d 02 01")
	first, err1 := Oid(body)
	second, err2 := Oid(body)
	flip(body)
	want := []uint64{1, 2, 840, 10045, 2, 1}
	if err1 != nil || err2 != nil || !slices.Equal(first, want) {
		t.Error(first, err1, err2)
	}
	clear(first[:cap(first)])
	if !slices.Equal(second, want) {
		t.Error("Oid: two answers share memory")
	}
}

func TestIdentifiersStay(t *testing.T) {
	for _, l := range [][]uint64{
		nil, {}, {1}, {0, 0}, {1, 2, 840, 10045, 2, 1}, {2, 1<<32 - 1, 128}, make([]uint64, 16),
		{3, 0}, {1, 40}, {2, 1 << 32}, make([]uint64, 17),
	} {
		want, wantErr := OidOf(l)
		for _, mark := range []uint64{0, 5, 1<<32 - 1, 1 << 32, 1<<64 - 1} {
			all, inner := roomy(l, mark)
			was := slices.Clone(all)
			got, err := OidOf(inner)
			if !slices.Equal(all, was) {
				t.Errorf("OidOf(%d): the identifier, or what lies around it, has changed", l)
			}
			if err != wantErr || !bytes.Equal(got, want) {
				t.Errorf("OidOf(%d) hangs on what lies around", l)
			}
			other, _ := OidOf(inner)
			flip(got[:cap(got)])
			clear(all)
			if !bytes.Equal(other, want) {
				t.Errorf("OidOf(%d): the answer changes with what was handed in, or with another answer", l)
			}
		}
	}
}

// Answers can't show that nothing is kept: the text can.

func readTexts(t *testing.T) []*ast.File {
	t.Helper()
	entries, err := os.ReadDir(".")
	if err != nil {
		t.Fatal(err)
	}
	var all []*ast.File
	for _, e := range entries {
		if !strings.HasSuffix(e.Name(), ".go") || strings.HasSuffix(e.Name(), "_test.go") {
			continue
		}
		f, err := parser.ParseFile(token.NewFileSet(), e.Name(), nil, 0)
		if err != nil {
			t.Fatal(err)
		}
		all = append(all, f)
	}
	return all
}

func TestKeepsNothing(t *testing.T) {
	for _, f := range readTexts(t) {
		for _, d := range f.Decls {
			if g, ok := d.(*ast.GenDecl); ok && g.Tok == token.VAR {
				t.Error("a variable at package level")
			}
		}
	}
}

func TestCallsOnlyTheLayersNamed(t *testing.T) {
	open := []string{"bytes", "slices", "escutcheon/api"}
	for _, f := range readTexts(t) {
		for _, i := range f.Imports {
			if path, err := strconv.Unquote(i.Path.Value); err != nil || !slices.Contains(open, path) {
				t.Errorf("imports %s", i.Path.Value)
			}
		}
	}
}
