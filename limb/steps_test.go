package limb

import (
	"go/ast"
	"go/parser"
	"go/token"
	"testing"
)

// A run can't show that no step hangs on a number (T4), nor that nothing is kept: the text can.

func readText(t *testing.T) *ast.File {
	t.Helper()
	f, err := parser.ParseFile(token.NewFileSet(), "limb.go", nil, 0)
	if err != nil {
		t.Fatal(err)
	}
	return f
}

func TestKeepsNothing(t *testing.T) {
	for _, d := range readText(t).Decls {
		if g, ok := d.(*ast.GenDecl); ok && g.Tok == token.VAR {
			t.Error("a variable at package level")
		}
	}
}

func TestGoesOneWay(t *testing.T) {
	for _, d := range readText(t).Decls {
		f, ok := d.(*ast.FuncDecl)
		if !ok {
			continue
		}
		ast.Inspect(f, func(n ast.Node) bool {
			switch x := n.(type) {
			case *ast.IfStmt:
				for _, name := range asked(x.Cond) {
					t.Errorf("%s: a condition asks %s", f.Name.Name, name)
				}
			case *ast.RangeStmt:
				for _, name := range asked(x.X) {
					t.Errorf("%s: a range asks %s", f.Name.Name, name)
				}
			case *ast.IndexExpr:
				for _, name := range asked(x.Index) {
					t.Errorf("%s: an index asks %s", f.Name.Name, name)
				}
			case *ast.ForStmt, *ast.SwitchStmt, *ast.TypeSwitchStmt, *ast.BranchStmt:
				t.Errorf("%s: chooses its steps by %T", f.Name.Name, x)
			}
			return true
		})
	}
}

// asked are the names that an expression hangs on, but for lengths, constants and places.
func asked(e ast.Expr) []string {
	open := map[string]bool{"i": true, "j": true, "place": true, "limb": true, "limbs": true, "limbBits": true, "limbBytes": true, "allBits": true, "allBytes": true}
	var names []string
	ast.Inspect(e, func(n ast.Node) bool {
		if call, ok := n.(*ast.CallExpr); ok {
			if f, ok := call.Fun.(*ast.Ident); ok && f.Name == "len" {
				return false
			}
		}
		if name, ok := n.(*ast.Ident); ok && !open[name.Name] {
			names = append(names, name.Name)
		}
		return true
	})
	return names
}
