package ecies

import (
	"bytes"
	"go/ast"
	"go/parser"
	"go/token"
	"go/types"
	"os"
	"slices"
	"strconv"
	"strings"
	"testing"

	"escutcheon/api"
)

// P15.3, R2

const around = 200

// roomy lays bytes into greater memory: who appends to them writes behind them.
func roomy(b []byte, mark byte) (all, inner []byte) {
	marks := bytes.Repeat([]byte{mark}, around)
	all = slices.Concat(marks, b, marks)
	return all, all[around : len(all)-around]
}

func flip(b []byte) {
	for i := range b {
		b[i] ^= 0xff
	}
}

func TestKeysStay(t *testing.T) {
	t.Parallel()
	q, k := publicOf(some("q")), some("k")
	for i, key := range keys() {
		all, inner := roomy(key, byte(i*0x55))
		was := slices.Clone(all)
		checkWrap(t, q, k, inner)
		if !bytes.Equal(all, was) {
			t.Errorf("the key %x, or what lies around it, has changed", key)
		}
	}
}

func TestWrappedKeysStay(t *testing.T) {
	t.Parallel()
	d := some("d")
	for i, key := range keys() {
		all, inner := roomy(wrapped(publicOf(d), some("k"), key), byte(i*0x55))
		was := slices.Clone(all)
		checkUnwrap(t, d, inner, key)
		if !bytes.Equal(all, was) {
			t.Errorf("%x wrapped, or what lies around it, has changed", key)
		}
	}
}

func TestWhatIsRefusedStays(t *testing.T) {
	t.Parallel()
	d, b, _ := sample()
	q := publicOf(some("q"))
	for _, c := range []struct {
		given []byte
		call  func(inner []byte) ([]byte, error)
		want  error
	}{
		{bytesOf(31, 30), func(key []byte) ([]byte, error) { return Wrap(q, d, key) }, api.ErrArg},
		{bytesOf(33, 30), func(key []byte) ([]byte, error) { return Wrap(q, d, key) }, api.ErrArg},
		{bytesOf(32, 30), func(key []byte) ([]byte, error) { return Wrap(q, nearN(0), key) }, api.ErrRange},
		{bytesOf(32, 30), func(key []byte) ([]byte, error) { return Wrap(infinity(), d, key) }, api.ErrPoint},
		{b, func(b []byte) ([]byte, error) { return Unwrap(api.U384{}, b) }, api.ErrRange},
		{b[:144], func(b []byte) ([]byte, error) { return Unwrap(d, b) }, api.ErrArg},
		{b[:97], func(b []byte) ([]byte, error) { return Unwrap(d, b) }, api.ErrArg},
		{slices.Concat(b, []byte{0}), func(b []byte) ([]byte, error) { return Unwrap(d, b) }, api.ErrArg},
		{turned(b, 0, 1), func(b []byte) ([]byte, error) { return Unwrap(d, b) }, api.ErrForm},
		{turned(b, 96, 1), func(b []byte) ([]byte, error) { return Unwrap(d, b) }, api.ErrPoint},
		{turned(b, 97, 1), func(b []byte) ([]byte, error) { return Unwrap(d, b) }, api.ErrTag},
		{turned(b, 144, 1), func(b []byte) ([]byte, error) { return Unwrap(d, b) }, api.ErrTag},
	} {
		all, inner := roomy(c.given, 0xa5)
		was := slices.Clone(all)
		if got, err := c.call(inner); len(got) > 0 || err != c.want {
			t.Errorf("%x: %x, %v; not %v", c.given, got, err, c.want)
		}
		if !bytes.Equal(all, was) {
			t.Errorf("%x, refused, or what lies around it, has changed", c.given)
		}
	}
}

func TestWrapAnswersStay(t *testing.T) {
	t.Parallel()
	q, k, key := publicOf(some("q")), some("k"), bytesOf(32, 31)
	all, inner := roomy(key, 0x5a)
	got, err := Wrap(q, k, inner)
	if err != nil {
		t.Fatal(err)
	}
	flip(all)
	if !bytes.Equal(got, wrapped(q, k, key)) {
		t.Error("what was wrapped has changed with the key")
	}
	// Nothing is kept: the same memory with other bytes has another answer.
	checkWrap(t, q, k, inner)
	if !bytes.Equal(got, wrapped(q, k, key)) {
		t.Error("what was wrapped has changed with another call")
	}
	was := slices.Clone(all)
	flip(got[:cap(got)])
	if !bytes.Equal(all, was) {
		t.Error("an answer shares memory with the key")
	}
	checkWrap(t, q, k, key)
}

func TestUnwrapAnswersStay(t *testing.T) {
	t.Parallel()
	d, b, key := sample()
	all, inner := roomy(b, 0x5a)
	got, err := Unwrap(d, inner)
	if err != nil {
		t.Fatal(err)
	}
	flip(all)
	if !bytes.Equal(got, key) {
		t.Error("what was unwrapped has changed with what was handed in")
	}
	checkNotUnwrapped(t, d, inner, api.ErrForm)
	copy(inner, wrapped(publicOf(d), some("another"), bytesOf(32, 32)))
	checkUnwrap(t, d, inner, bytesOf(32, 32))
	if !bytes.Equal(got, key) {
		t.Error("what was unwrapped has changed with another call")
	}
	was := slices.Clone(all)
	flip(got[:cap(got)])
	if !bytes.Equal(all, was) {
		t.Error("an answer shares memory with what was handed in")
	}
	checkUnwrap(t, d, b, key)
}

func TestAnswersShareNoMemory(t *testing.T) {
	t.Parallel()
	d, b, key := sample()
	for name, call := range map[string]func() ([]byte, error){
		"Wrap":   func() ([]byte, error) { return Wrap(publicOf(d), some("k"), key) },
		"Unwrap": func() ([]byte, error) { return Unwrap(d, b) },
	} {
		first, err1 := call()
		second, err2 := call()
		if err1 != nil || err2 != nil || !bytes.Equal(first, second) {
			t.Fatalf("%s: %x, %v; then %x, %v", name, first, err1, second, err2)
		}
		was := slices.Clone(second)
		flip(first[:cap(first)])
		third, err := call()
		if err != nil || !bytes.Equal(second, was) || !bytes.Equal(third, was) {
			t.Errorf("%s: two answers share memory", name)
		}
	}
}

// Answers can't show that nothing is kept, nor by what steps are chosen: the text can.

func readTexts(t *testing.T) []*ast.File {
	t.Helper()
	entries, err := os.ReadDir(".")
	if err != nil {
		t.Fatal(err)
	}
	var all []*ast.File
	for _, e := range entries {
		if !strings.HasSuffix(e.Name(), ".go") || strings.HasSuffix(e.Name(), "_test.go") {
			continue
		}
		f, err := parser.ParseFile(token.NewFileSet(), e.Name(), nil, 0)
		if err != nil {
			t.Fatal(err)
		}
		all = append(all, f)
	}
	return all
}

func TestKeepsNothing(t *testing.T) {
	for _, f := range readTexts(t) {
		for _, d := range f.Decls {
			if g, ok := d.(*ast.GenDecl); ok && g.Tok == token.VAR {
				t.Error("a variable at package level")
			}
		}
	}
}

func TestCallsOnlyTheLayersNamed(t *testing.T) {
	open := []string{
		"slices", "escutcheon/api", "escutcheon/order", "escutcheon/curve", "escutcheon/ladder", "escutcheon/mac", "escutcheon/gcm",
	}
	for _, f := range readTexts(t) {
		for _, i := range f.Imports {
			if path, err := strconv.Unquote(i.Path.Value); err != nil || !slices.Contains(open, path) {
				t.Errorf("imports %s", i.Path.Value)
			}
		}
	}
}

// T4: a choice may hang on lengths, on an error, on a point that anybody knows, and on whether a
// whole secret is in its range; on no limb and no byte of one.
func TestNoChoiceHangsOnASecret(t *testing.T) {
	open := []string{
		"err != nil", "len(key) != keySize", "len(b) != wrappedSize",
		"!inRange(k)", "!inRange(d)", "q.None || !curve.On(q)",
	}
	for _, f := range readTexts(t) {
		ast.Inspect(f, func(n ast.Node) bool {
			switch x := n.(type) {
			case *ast.IfStmt:
				if !slices.Contains(open, types.ExprString(x.Cond)) {
					t.Errorf("chooses its steps by %s", types.ExprString(x.Cond))
				}
			case *ast.ForStmt, *ast.SwitchStmt, *ast.TypeSwitchStmt, *ast.SelectStmt, *ast.BranchStmt:
				t.Errorf("chooses its steps by %T", x)
			}
			return true
		})
	}
}
