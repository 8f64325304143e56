package gcm

import (
	"bytes"
	"go/ast"
	"go/parser"
	"go/token"
	"go/types"
	"os"
	"slices"
	"strconv"
	"strings"
	"testing"

	"escutcheon/api"
)

// P11.4, R2

// handed are all four things that a call is given, each with bytes ahead and room behind.
type handed struct{ key, nonce, aad, b []byte }

const around = 64

// roomy lays bytes into greater memory: who appends to them writes behind them.
func roomy(b []byte) []byte {
	return slices.Concat(bytes.Repeat([]byte{0x11}, around), b, bytes.Repeat([]byte{0x22}, around))
}

func roomyAll(h handed) handed { return handed{roomy(h.key), roomy(h.nonce), roomy(h.aad), roomy(h.b)} }

// inner is what roomy laid around.
func inner(all []byte) []byte { return all[around : len(all)-around] }

func innerAll(h handed) handed { return handed{inner(h.key), inner(h.nonce), inner(h.aad), inner(h.b)} }

func sameAll(a, b handed) bool {
	return bytes.Equal(a.key, b.key) && bytes.Equal(a.nonce, b.nonce) && bytes.Equal(a.aad, b.aad) && bytes.Equal(a.b, b.b)
}

func cloneAll(h handed) handed {
	return handed{slices.Clone(h.key), slices.Clone(h.nonce), slices.Clone(h.aad), slices.Clone(h.b)}
}

// spoil turns each bit of each thing.
func spoil(h handed) {
	for _, b := range [][]byte{h.key, h.nonce, h.aad, h.b} {
		for i := range b {
			b[i] ^= 0xff
		}
	}
}

// sealed is the same with its b sealed.
func sealed(t *testing.T, h handed) handed {
	t.Helper()
	h.b = wantSeal(t, h.key, h.nonce, h.aad, h.b)
	return h
}

func handedIn() []handed {
	var all []handed
	for _, n := range lengthsNamed() {
		for _, m := range lengthsNamed() {
			all = append(all, handed{bytesOf(32, n), bytesOf(12, m), bytesOf(n, 44), bytesOf(m, 45)})
		}
	}
	return all
}

func TestWhatIsHandedInStays(t *testing.T) {
	for _, h := range handedIn() {
		given := roomyAll(h)
		was, in := cloneAll(given), innerAll(given)
		if got, err := Seal(in.key, in.nonce, in.aad, in.b); err != nil || !bytes.Equal(got, sealed(t, h).b) {
			t.Fatalf("Seal of %d and %d bytes = %x, %v", len(h.aad), len(h.b), got, err)
		}
		if !sameAll(given, was) {
			t.Errorf("Seal of %d and %d bytes has changed them, or what lies around them", len(h.aad), len(h.b))
		}
		given = roomyAll(sealed(t, h))
		was, in = cloneAll(given), innerAll(given)
		if got, err := Open(in.key, in.nonce, in.aad, in.b); err != nil || !bytes.Equal(got, h.b) {
			t.Fatalf("Open of %d and %d bytes = %x, %v", len(h.aad), len(h.b), got, err)
		}
		if !sameAll(given, was) {
			t.Errorf("Open of %d and %d bytes has changed them, or what lies around them", len(h.aad), len(h.b))
		}
	}
}

func TestWhatIsRefusedStays(t *testing.T) {
	for _, h := range handedIn() {
		short, long, wrong := h, h, sealed(t, h)
		short.key, long.nonce, wrong.b = h.key[:31], bytesOf(13, 46), turned(wrong.b, 8*len(wrong.b)-8)
		cut := h
		cut.b = bytesOf(15, 47)
		for _, c := range []struct {
			h    handed
			want api.Code
		}{{short, api.ErrArg}, {long, api.ErrArg}, {wrong, api.ErrTag}, {cut, api.ErrShort}} {
			given := roomyAll(c.h)
			was, in := cloneAll(given), innerAll(given)
			got, err := Open(in.key, in.nonce, in.aad, in.b)
			checkRefused(t, "Open", got, err, c.want)
			if c.want == api.ErrArg {
				got, err = Seal(in.key, in.nonce, in.aad, in.b)
				checkRefused(t, "Seal", got, err, c.want)
			}
			if !sameAll(given, was) {
				t.Errorf("refused by %v, %d and %d bytes have changed", c.want, len(c.h.aad), len(c.h.b))
			}
		}
	}
}

func TestAnswersStay(t *testing.T) {
	for _, h := range handedIn() {
		want := sealed(t, h).b
		given := roomyAll(h)
		in := innerAll(given)
		got, err := Seal(in.key, in.nonce, in.aad, in.b)
		if err != nil {
			t.Fatal(err)
		}
		spoil(given)
		if !bytes.Equal(got, want) {
			t.Errorf("a seal of %d bytes has changed with what was handed in", len(h.b))
		}
		// Nothing is kept: the same memory with other bytes has another answer.
		again, err := Seal(in.key, in.nonce, in.aad, in.b)
		if err != nil || !bytes.Equal(again, sealed(t, cloneAll(in)).b) {
			t.Errorf("the same memory with other bytes: Seal = %x, %v", again, err)
		}
		given = roomyAll(sealed(t, h))
		in = innerAll(given)
		opened, err := Open(in.key, in.nonce, in.aad, in.b)
		if err != nil {
			t.Fatal(err)
		}
		spoil(given)
		if !bytes.Equal(opened, h.b) {
			t.Errorf("%d bytes that were opened have changed with what was handed in", len(h.b))
		}
		refused, err := Open(in.key, in.nonce, in.aad, in.b)
		checkRefused(t, "the same memory with other bytes", refused, err, api.ErrTag)
	}
}

// Who changes an answer changes nothing else: not what was handed in, and not another answer.
func TestAnswersAreNewMemory(t *testing.T) {
	for _, h := range handedIn() {
		plain, closed := roomyAll(h), roomyAll(sealed(t, h))
		wasPlain, wasClosed := cloneAll(plain), cloneAll(closed)
		in, seal := innerAll(plain), innerAll(closed)
		first, err1 := Seal(in.key, in.nonce, in.aad, in.b)
		second, err2 := Seal(in.key, in.nonce, in.aad, in.b)
		third, err3 := Open(seal.key, seal.nonce, seal.aad, seal.b)
		fourth, err4 := Open(seal.key, seal.nonce, seal.aad, seal.b)
		if err1 != nil || err2 != nil || err3 != nil || err4 != nil {
			t.Fatal(err1, err2, err3, err4)
		}
		for _, b := range [][]byte{first, third} {
			b = b[:cap(b)]
			for i := range b {
				b[i] ^= 0xff
			}
		}
		if !sameAll(plain, wasPlain) || !sameAll(closed, wasClosed) {
			t.Errorf("%d and %d bytes share memory with an answer", len(h.aad), len(h.b))
		}
		if !bytes.Equal(second, sealed(t, h).b) || !bytes.Equal(fourth, h.b) {
			t.Errorf("%d and %d bytes: two answers share memory", len(h.aad), len(h.b))
		}
	}
}

// All four things may be the same memory, or lie within one another.
func TestThingsMayShareMemory(t *testing.T) {
	all := bytesOf(100, 48)
	was := slices.Clone(all)
	p := pair{was[:32], was[:12]}
	for _, n := range lengthsNamed() {
		for _, m := range lengthsNamed() {
			want := wantSeal(t, p.key, p.nonce, was[:n], was[5:5+m])
			got, err := Seal(all[:32], all[:12], all[:n], all[5:5+m])
			if err != nil || !bytes.Equal(got, want) || !bytes.Equal(all, was) {
				t.Errorf("%d and %d bytes of one memory: %x, %v; want %x", n, m, got, err, want)
			}
			// A key, a nonce, what goes along and a seal behind one another.
			row := slices.Concat(p.key, p.nonce, was[:n], want)
			wasRow := slices.Clone(row)
			opened, err := Open(row[:32], row[32:44], row[44:44+n], row[44+n:])
			if err != nil || !bytes.Equal(opened, was[5:5+m]) || !bytes.Equal(row, wasRow) {
				t.Errorf("%d and %d bytes behind one another: %x, %v", n, m, opened, err)
			}
		}
	}
}

// Answers can't show that nothing is kept, nor how tags are held against each other: the text can.

func readTexts(t *testing.T) []*ast.File {
	t.Helper()
	entries, err := os.ReadDir(".")
	if err != nil {
		t.Fatal(err)
	}
	var all []*ast.File
	for _, e := range entries {
		if !strings.HasSuffix(e.Name(), ".go") || strings.HasSuffix(e.Name(), "_test.go") {
			continue
		}
		f, err := parser.ParseFile(token.NewFileSet(), e.Name(), nil, 0)
		if err != nil {
			t.Fatal(err)
		}
		all = append(all, f)
	}
	return all
}

func TestKeepsNothing(t *testing.T) {
	for _, f := range readTexts(t) {
		for _, d := range f.Decls {
			if g, ok := d.(*ast.GenDecl); ok && g.Tok == token.VAR {
				t.Error("a variable at package level")
			}
		}
	}
}

func TestCallsOnlyTheLayersNamed(t *testing.T) {
	open := []string{"slices", "escutcheon/api", "escutcheon/mac", "escutcheon/aes", "escutcheon/ghash"}
	for _, f := range readTexts(t) {
		for _, i := range f.Imports {
			if path, err := strconv.Unquote(i.Path.Value); err != nil || !slices.Contains(open, path) {
				t.Errorf("imports %s", i.Path.Value)
			}
		}
	}
}

// T4: a choice may hang on lengths, on an error, and on whether the whole tag fits; on no secret byte.
func TestNoChoiceHangsOnAByte(t *testing.T) {
	open := []string{
		"err != nil", "len(b) < tagSize", "!mac.Same(tag, b[end:])", "at < len(b)",
		"len(key) != keySize || len(nonce) != nonceSize", "len(aad) > api.MaxSealed || len(b) > most",
	}
	for _, f := range readTexts(t) {
		ast.Inspect(f, func(n ast.Node) bool {
			var cond ast.Expr
			switch x := n.(type) {
			case *ast.IfStmt:
				cond = x.Cond
			case *ast.ForStmt:
				cond = x.Cond
			case *ast.SwitchStmt, *ast.TypeSwitchStmt, *ast.SelectStmt, *ast.BranchStmt:
				t.Errorf("chooses its steps by %T", x)
			}
			if cond != nil && !slices.Contains(open, types.ExprString(cond)) {
				t.Errorf("chooses its steps by %s", types.ExprString(cond))
			}
			return true
		})
	}
}
