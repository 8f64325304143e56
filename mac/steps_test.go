package mac

import (
	"go/ast"
	"go/parser"
	"go/token"
	"testing"
)

// Answers can't show that nothing is kept, nor that Same goes through all bytes: the text can.

func readText(t *testing.T) *ast.File {
	t.Helper()
	f, err := parser.ParseFile(token.NewFileSet(), "mac.go", nil, 0)
	if err != nil {
		t.Fatal(err)
	}
	return f
}

func TestKeepsNothing(t *testing.T) {
	for _, d := range readText(t).Decls {
		if g, ok := d.(*ast.GenDecl); ok && g.Tok == token.VAR {
			t.Error("a variable at package level")
		}
	}
}

func TestSameGoesThroughAllBytes(t *testing.T) {
	for _, d := range readText(t).Decls {
		f, ok := d.(*ast.FuncDecl)
		if !ok || f.Name.Name != "Same" {
			continue
		}
		ast.Inspect(f, func(n ast.Node) bool {
			if loop, ok := n.(*ast.RangeStmt); ok {
				findChoices(t, loop.Body)
			}
			return true
		})
	}
}

func findChoices(t *testing.T, body *ast.BlockStmt) {
	ast.Inspect(body, func(n ast.Node) bool {
		switch x := n.(type) {
		case *ast.IfStmt, *ast.SwitchStmt, *ast.BranchStmt, *ast.ReturnStmt:
			t.Errorf("a loop of Same chooses its steps by %T", x)
		}
		return true
	})
}
