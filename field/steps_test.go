package field

import (
	"go/ast"
	"go/parser"
	"go/token"
	"math/big"
	"testing"

	"escutcheon/api"
)

// Answers can't show that no step hangs on a number: the text can.
func TestGoesOneWay(t *testing.T) {
	told := map[string]bool{"Root": true, "Decode": true} // their errors tell what the number is
	for _, file := range []string{"field.go", "power.go"} {
		text, err := parser.ParseFile(token.NewFileSet(), file, nil, 0)
		if err != nil {
			t.Fatal(err)
		}
		for _, d := range text.Decls {
			if f, ok := d.(*ast.FuncDecl); ok && !told[f.Name.Name] {
				findChoices(t, f)
			}
		}
	}
}

func findChoices(t *testing.T, f *ast.FuncDecl) {
	ast.Inspect(f, func(n ast.Node) bool {
		switch x := n.(type) {
		case *ast.IfStmt, *ast.ForStmt, *ast.SwitchStmt, *ast.TypeSwitchStmt, *ast.SelectStmt, *ast.BranchStmt:
			t.Errorf("%s: chooses its steps by %T", f.Name.Name, x)
		case *ast.RangeStmt:
			if count, ok := x.X.(*ast.Ident); !ok || count.Name != "n" {
				t.Errorf("%s: a range over something else than a count of bits", f.Name.Name)
			}
		case *ast.CallExpr:
			if name, ok := x.Fun.(*ast.Ident); ok && (name.Name == "behind" || name.Name == "squares") {
				checkCount(t, f.Name.Name, x)
			}
		}
		return true
	})
}

// checkCount holds that a count of bits is written out, or handed on as it came.
func checkCount(t *testing.T, where string, call *ast.CallExpr) {
	ast.Inspect(call.Args[1], func(n ast.Node) bool {
		if name, ok := n.(*ast.Ident); ok && name.Name != "n" {
			t.Errorf("%s: a count of bits hangs on %s", where, name.Name)
		}
		return true
	})
}

// The runs of bits that Inv and Root are put together from are what their remarks say.
func TestPowersOf(t *testing.T) {
	a := api.U384{7, 6, 5, 4, 3, 2}
	ones := func(n uint) *big.Int { return new(big.Int).Sub(powerOf(n), big.NewInt(1)) }
	head := new(big.Int).Lsh(ones(255), 33)
	head.Or(head, ones(32))
	p := powersOf(a)
	for _, c := range []struct {
		what     string
		got      api.U384
		exponent *big.Int
	}{
		{"one", p.one, big.NewInt(1)},
		{"ones30", p.ones30, ones(30)},
		{"head", p.head, head},
	} {
		if want := new(big.Int).Exp(bigOf(a), c.exponent, bigP()); outOfR(c.got) != numberOf(want) {
			t.Errorf("%s = %x", c.what, c.got)
		}
	}
}
