package ecdsa

import (
	"bytes"
	"go/ast"
	"go/parser"
	"go/token"
	"os"
	"reflect"
	"slices"
	"strconv"
	"strings"
	"testing"

	"escutcheon/api"
)

// R2

const around = 60

// roomy lays bytes into greater memory: who appends to them writes behind them.
func roomy(b []byte, mark byte) (all, inner []byte) {
	marks := bytes.Repeat([]byte{mark}, around)
	all = slices.Concat(marks, b, marks)
	return all, all[around : len(all)-around]
}

func flip(b []byte) {
	for i := range b {
		b[i] ^= 0xff
	}
}

func TestDigestsStay(t *testing.T) {
	t.Parallel()
	d, k := some("d"), some("k")
	q := publicOf(d)
	for _, digest := range [][]byte{digestOf("m"), make([]byte, 48), nil, make([]byte, 47), make([]byte, 49)} {
		want, wantErr := Sign(d, k, digest)
		for _, mark := range []byte{0, 0xa5} {
			all, inner := roomy(digest, mark)
			was := slices.Clone(all)
			got, err := Sign(d, k, inner)
			if !bytes.Equal(all, was) {
				t.Errorf("Sign: the digest %x, or what lies around it, has changed", digest)
			}
			if got != want || err != wantErr {
				t.Errorf("Sign of %x hangs on what lies around", digest)
			}
			checkVerify(t, q, inner, got, wantErr)
			if !bytes.Equal(all, was) {
				t.Errorf("Verify: the digest %x, or what lies around it, has changed", digest)
			}
		}
	}
}

// decodable are bytes that are read, and bytes that are not.
func decodable(t *testing.T) [][]byte {
	return [][]byte{
		toldBy(t, api.Sig{R: some("R"), S: some("S")}), toldBy(t, api.Sig{R: api.U384{1}, S: nearN(-1)}),
		{}, {0x30, 0}, {0x30, 6, 2, 1, 0, 2, 1, 1}, {0x30, 6, 2, 1, 1, 2, 1}, {0x30, 3, 2, 1, 1}, pair(bigN(), power(400)),
	}
}

func TestBytesStay(t *testing.T) {
	for _, b := range decodable(t) {
		want, wantErr := Decode(b)
		for _, mark := range []byte{0, 1, 2, 0x30, 0xff} {
			all, inner := roomy(b, mark)
			was := slices.Clone(all)
			got, err := Decode(inner)
			if !bytes.Equal(all, was) {
				t.Errorf("Decode(%x): the bytes, or what lies around them, have changed", b)
			}
			if got != want || !reflect.DeepEqual(err, wantErr) {
				t.Errorf("Decode(%x) hangs on what lies around", b)
			}
			// What lies around is turned, the bytes themselves are turned back.
			flip(all)
			flip(inner)
			if again, err := Decode(inner); again != want || !reflect.DeepEqual(err, wantErr) {
				t.Errorf("Decode(%x): another answer than before", b)
			}
		}
	}
}

func TestAnswersAreNewMemory(t *testing.T) {
	for _, s := range []api.Sig{{R: api.U384{1}, S: api.U384{2}}, {R: some("R"), S: nearN(-1)}} {
		want := toldBy(t, s)
		first, err1 := Encode(s)
		second, err2 := Encode(s)
		if err1 != nil || err2 != nil || !bytes.Equal(first, want) {
			t.Fatalf("Encode(%x): %x, %v, %v", s, first, err1, err2)
		}
		flip(first[:cap(first)])
		third, err := Encode(s)
		if err != nil || !bytes.Equal(second, want) || !bytes.Equal(third, want) {
			t.Errorf("Encode(%x): two answers share memory", s)
		}
	}
}

// Answers can't show that nothing is kept: the text can.

func readTexts(t *testing.T) []*ast.File {
	t.Helper()
	entries, err := os.ReadDir(".")
	if err != nil {
		t.Fatal(err)
	}
	var all []*ast.File
	for _, e := range entries {
		if !strings.HasSuffix(e.Name(), ".go") || strings.HasSuffix(e.Name(), "_test.go") {
			continue
		}
		f, err := parser.ParseFile(token.NewFileSet(), e.Name(), nil, 0)
		if err != nil {
			t.Fatal(err)
		}
		all = append(all, f)
	}
	return all
}

func TestKeepsNothing(t *testing.T) {
	for _, f := range readTexts(t) {
		for _, d := range f.Decls {
			if g, ok := d.(*ast.GenDecl); ok && g.Tok == token.VAR {
				t.Error("a variable at package level")
			}
		}
	}
}

func TestCallsOnlyTheLayersNamed(t *testing.T) {
	open := []string{
		"escutcheon/api", "escutcheon/limb", "escutcheon/order", "escutcheon/curve",
		"escutcheon/ladder", "escutcheon/der", "escutcheon/prim",
	}
	for _, f := range readTexts(t) {
		for _, i := range f.Imports {
			if path, err := strconv.Unquote(i.Path.Value); err != nil || !slices.Contains(open, path) {
				t.Errorf("imports %s", i.Path.Value)
			}
		}
	}
}
