package manifest

import (
	"bytes"
	"go/ast"
	"go/parser"
	"go/token"
	"os"
	"slices"
	"strconv"
	"strings"
	"testing"

	"escutcheon/api"
)

// R2

const around = 20

// roomy lays bytes into greater memory: who appends to them writes behind them.
func roomy(l []byte, mark byte) (all, inner []byte) {
	marks := bytes.Repeat([]byte{mark}, around)
	all = slices.Concat(marks, l, marks)
	return all, all[around : len(all)-around]
}

func fill(b []byte, x byte) {
	for i := range b {
		b[i] = x
	}
}

// all tells whether each byte is that one.
func all(b []byte, x byte) bool {
	return !slices.ContainsFunc(b, func(y byte) bool { return y != x })
}

// roomyManifest is a manifest whose bytes lie in greater memory, and that memory.
func roomyManifest(m api.Manifest, mark byte) (api.Manifest, [][]byte) {
	var rooms [][]byte
	for place := range rowSizes() {
		room, inner := roomy(*rowOf(&m, place), mark)
		*rowOf(&m, place) = inner
		rooms = append(rooms, room)
	}
	return m, rooms
}

// rowsOf is a manifest's memory.
func rowsOf(m api.Manifest) [][]byte {
	return [][]byte{m.Nonce[:cap(m.Nonce)], m.Wrapped[:cap(m.Wrapped)], m.Digest[:cap(m.Digest)]}
}

func copiedRows(rows [][]byte) [][]byte {
	var own [][]byte
	for _, b := range rows {
		own = append(own, bytes.Clone(b))
	}
	return own
}

func sameRows(a, b [][]byte) bool { return slices.EqualFunc(a, b, bytes.Equal) }

// someManifests are right ones, and wrong ones.
func someManifests() []api.Manifest {
	var l []api.Manifest
	for i, one := range append(rightChanges(), wrongChanges()...) {
		m := full()
		if i%4 == 0 {
			m = zero()
		}
		one.do(&m)
		l = append(l, m)
	}
	return append(l, api.Manifest{})
}

func TestManifestsStay(t *testing.T) {
	for _, m := range someManifests() {
		want, wantErr := Encode(m)
		for _, mark := range []byte{0, 0xa5, 0xff} {
			own, rooms := roomyManifest(m, mark)
			was := copiedRows(rooms)
			got, err := Encode(own)
			if !bytes.Equal(got, want) || err != wantErr {
				t.Errorf("%+v: %x, %v, and in greater memory %x, %v", m, want, wantErr, got, err)
			}
			if !sameRows(rooms, was) {
				t.Errorf("%+v, or what lies around its bytes, has changed", m)
			}
			// What was answered stays.
			for _, room := range rooms {
				fill(room, 0x77)
			}
			if !bytes.Equal(got, want) {
				t.Errorf("the bytes of %+v have changed with it", m)
			}
			fill(got[:cap(got)], 0x5a)
			for _, room := range rooms {
				if !all(room, 0x77) {
					t.Errorf("the bytes of %+v share memory with it", m)
				}
			}
		}
	}
}

func TestAskingChangesNothing(t *testing.T) {
	for _, m := range someManifests() {
		for _, ram := range []int{-1, 0, 1 << 16, 1 << 40} {
			own, rooms := roomyManifest(m, 0xa5)
			was := copiedRows(rooms)
			if got := Fits(own, ram); got != wantFits(m, ram) {
				t.Errorf("Fits(%+v, %d) = %v", m, ram, got)
			}
			if !sameRows(rooms, was) {
				t.Errorf("%+v, or what lies around its bytes, has changed", m)
			}
		}
	}
}

func TestBodiesStay(t *testing.T) {
	bodies := [][]byte{wantBytes(zero()), wantBytes(full()), {5, 0}, {5, 0, 0}, {0x30}, {}, written(nested(15)), written(nested(16)), padded(1<<20, 2)}
	for _, body := range bodies {
		for _, s := range []api.Sig{someSig(), {}} {
			want, wantErr := Sign(body, s)
			for _, mark := range []byte{0, 0x30, 0xff} {
				room, inner := roomy(body, mark)
				was := bytes.Clone(room)
				got, err := Sign(inner, s)
				if !bytes.Equal(got, want) || !sameError(err, wantErr) {
					t.Errorf("Sign(%s) hangs on what lies around", short(body))
				}
				if !bytes.Equal(room, was) {
					t.Errorf("%s, or what lies around it, has changed", short(body))
				}
				fill(room, 0x77)
				if !bytes.Equal(got, want) {
					t.Errorf("the signed one of %s has changed with it", short(body))
				}
				fill(got[:cap(got)], 0x5a)
				if !all(room, 0x77) {
					t.Errorf("the signed one of %s shares memory with it", short(body))
				}
			}
		}
	}
}

// readBytes are those of right manifests and signed ones, and of wrong ones.
func readBytes() [][]byte {
	var l [][]byte
	for _, x := range []api.Tlv{treeOf(full()), treeOf(zero()), signedTree()} {
		for _, way := range places(x) {
			for _, change := range elementChanges() {
				l = append(l, written(changed(x, way, change)))
			}
		}
		l = append(l, written(x), append(written(x), 0), written(x)[:50])
	}
	return append(l, nil)
}

func TestReadBytesStay(t *testing.T) {
	for _, b := range readBytes() {
		want, wantErr := Decode(b)
		for _, mark := range []byte{0, 0xff} {
			room, inner := roomy(b, mark)
			was := bytes.Clone(room)
			got, err := Decode(inner)
			if !sameManifest(got, want) || !sameError(err, wantErr) {
				t.Errorf("Decode(%x) hangs on what lies around", b)
			}
			if !bytes.Equal(room, was) {
				t.Errorf("%x, or what lies around it, has changed", b)
			}
			fill(room, 0x77)
			if !sameManifest(got, want) {
				t.Errorf("the manifest of %x has changed with it", b)
			}
			for _, row := range rowsOf(got) {
				fill(row, 0x5a)
			}
			if !all(room, 0x77) {
				t.Errorf("the manifest of %x shares memory with it", b)
			}
		}
	}
}

func TestReadSignedBytesStay(t *testing.T) {
	for _, b := range readBytes() {
		want, wantSig, wantErr := Signed(b)
		for _, mark := range []byte{0, 0xff} {
			room, inner := roomy(b, mark)
			was := bytes.Clone(room)
			got, s, err := Signed(inner)
			if !bytes.Equal(got, want) || s != wantSig || !sameError(err, wantErr) {
				t.Errorf("Signed(%x) hangs on what lies around", b)
			}
			if !bytes.Equal(room, was) {
				t.Errorf("%x, or what lies around it, has changed", b)
			}
			fill(room, 0x77)
			if !bytes.Equal(got, want) || s != wantSig {
				t.Errorf("the body of %x has changed with it", b)
			}
			fill(got[:cap(got)], 0x5a)
			if !all(room, 0x77) {
				t.Errorf("the body of %x shares memory with it", b)
			}
		}
	}
}

// Each row of an answer is spoilt alone: the others stay, and another answer too.
func TestRowsOfAnAnswerShareNoMemory(t *testing.T) {
	b := wantBytes(full())
	for i := range rowSizes() {
		one, err := Decode(b)
		if err != nil {
			t.Fatal(err)
		}
		second, _ := Decode(b)
		rows := rowsOf(one)
		was := copiedRows(rows)
		fill(rows[i], 0)
		for k := range rows {
			if bytes.Equal(rows[k], was[k]) == (k == i) {
				t.Errorf("row %d has changed, or not, with row %d", k, i)
			}
		}
		if !sameManifest(second, full()) {
			t.Errorf("another answer has changed with row %d: %+v", i, second)
		}
		checkDecode(t, "behind it", b, full())
	}
}

func TestAnswersShareNoMemory(t *testing.T) {
	body := wantBytes(full())
	first, _ := Encode(full())
	second, _ := Encode(full())
	fill(first[:cap(first)], 0x5a)
	if !bytes.Equal(second, body) {
		t.Error("two manifests' bytes share memory")
	}
	want := wantSign(body, someSig())
	first, _ = Sign(body, someSig())
	second, _ = Sign(body, someSig())
	fill(first[:cap(first)], 0x5a)
	if !bytes.Equal(second, want) {
		t.Error("two signed ones share memory")
	}
	first, _, _ = Signed(want)
	second, _, _ = Signed(want)
	fill(first[:cap(first)], 0x5a)
	if !bytes.Equal(second, body) {
		t.Error("two bodies share memory")
	}
}

// What is asked for in between changes nothing, and nothing is known from before.
func TestCallsKnowNothingOfEachOther(t *testing.T) {
	for range 3 {
		checkDecode(t, "full", wantBytes(full()), full())
		checkNoManifest(t, "none", bytesFrom("30 00"))
		checkDecode(t, "zero", wantBytes(zero()), zero())
		checkNotEncoded(t, "none", api.Manifest{})
		checkSign(t, []byte{5, 0}, someSig())
		checkNotSigned(t, []byte{5, 0}, api.Sig{}, api.ErrRange)
		checkNoSigned(t, "none", bytesFrom("30 00"))
		checkAnswer(t, 1, 16, 5, 20, api.ErrPlace)
		checkAnswer(t, 1, 16, 5, 21, nil)
	}
}

// Answers can't show that nothing is kept: the text can.

func readTexts(t *testing.T) []*ast.File {
	t.Helper()
	entries, err := os.ReadDir(".")
	if err != nil {
		t.Fatal(err)
	}
	var l []*ast.File
	for _, e := range entries {
		if !strings.HasSuffix(e.Name(), ".go") || strings.HasSuffix(e.Name(), "_test.go") {
			continue
		}
		f, err := parser.ParseFile(token.NewFileSet(), e.Name(), nil, 0)
		if err != nil {
			t.Fatal(err)
		}
		l = append(l, f)
	}
	return l
}

func TestKeepsNothing(t *testing.T) {
	for _, f := range readTexts(t) {
		for _, d := range f.Decls {
			if g, ok := d.(*ast.GenDecl); ok && g.Tok == token.VAR {
				t.Error("a variable at package level")
			}
		}
	}
}

func TestCallsOnlyTheLayersNamed(t *testing.T) {
	open := []string{"escutcheon/api", "escutcheon/der", "escutcheon/prim", "escutcheon/ecdsa"}
	for _, f := range readTexts(t) {
		for _, i := range f.Imports {
			if path, err := strconv.Unquote(i.Path.Value); err != nil || !slices.Contains(open, path) {
				t.Errorf("imports %s", i.Path.Value)
			}
		}
	}
}
