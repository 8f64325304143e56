package modp

import (
	"go/ast"
	"go/parser"
	"go/token"
	"testing"
)

// Answers can't show that no step hangs on a number, nor that nothing is kept: the text can.
func TestGoesOneWayAndKeepsNothing(t *testing.T) {
	text, err := parser.ParseFile(token.NewFileSet(), "modp.go", nil, 0)
	if err != nil {
		t.Fatal(err)
	}
	for _, d := range text.Decls {
		switch x := d.(type) {
		case *ast.GenDecl:
			if x.Tok == token.VAR {
				t.Error("a variable at package level")
			}
		case *ast.FuncDecl:
			if x.Name.Name != "New" { // a modulus is no secret
				findChoices(t, x)
			}
		}
	}
}

func findChoices(t *testing.T, f *ast.FuncDecl) {
	open := map[string]bool{"limbs": true, "allBits": true, "newtons": true}
	ast.Inspect(f, func(n ast.Node) bool {
		switch x := n.(type) {
		case *ast.IfStmt, *ast.ForStmt, *ast.SwitchStmt, *ast.TypeSwitchStmt, *ast.SelectStmt, *ast.BranchStmt:
			t.Errorf("%s: chooses its steps by %T", f.Name.Name, x)
		case *ast.RangeStmt:
			if count, ok := x.X.(*ast.Ident); !ok || !open[count.Name] {
				t.Errorf("%s: a range over something else than a constant", f.Name.Name)
			}
		}
		return true
	})
}
