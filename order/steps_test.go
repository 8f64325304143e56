package order

import (
	"go/ast"
	"go/parser"
	"go/token"
	"testing"
)

// Answers can't show that no step hangs on a number: the text can.
func TestGoesOneWay(t *testing.T) {
	told := map[string]bool{"Decode": true, "Digest": true} // their errors tell of what was handed in
	text, err := parser.ParseFile(token.NewFileSet(), "order.go", nil, 0)
	if err != nil {
		t.Fatal(err)
	}
	for _, d := range text.Decls {
		if f, ok := d.(*ast.FuncDecl); ok && !told[f.Name.Name] {
			findChoices(t, f)
		}
	}
}

func findChoices(t *testing.T, f *ast.FuncDecl) {
	ast.Inspect(f, func(n ast.Node) bool {
		switch x := n.(type) {
		case *ast.IfStmt, *ast.ForStmt, *ast.RangeStmt, *ast.SwitchStmt, *ast.TypeSwitchStmt,
			*ast.SelectStmt, *ast.BranchStmt, *ast.IndexExpr:
			t.Errorf("%s: chooses its steps by %T", f.Name.Name, x)
		}
		return true
	})
}
