package curve

import (
	"go/ast"
	"go/parser"
	"go/token"
	"testing"
)

// Answers can't show that no step hangs on which point it is: the text can.
func TestGoesOneWay(t *testing.T) {
	told := map[string]bool{"Encode": true, "Decode": true} // what goes through them is no secret
	file, err := parser.ParseFile(token.NewFileSet(), "curve.go", nil, 0)
	if err != nil {
		t.Fatal(err)
	}
	for _, d := range file.Decls {
		if f, ok := d.(*ast.FuncDecl); ok && !told[f.Name.Name] {
			findChoices(t, f)
		}
	}
}

func findChoices(t *testing.T, f *ast.FuncDecl) {
	ast.Inspect(f, func(n ast.Node) bool {
		switch x := n.(type) {
		case *ast.IfStmt:
			if !asksOnAlone(x.Cond) {
				t.Errorf("%s: chooses its steps by something else than On", f.Name.Name)
			}
		case *ast.ForStmt, *ast.RangeStmt, *ast.SwitchStmt, *ast.TypeSwitchStmt, *ast.SelectStmt, *ast.BranchStmt:
			t.Errorf("%s: chooses its steps by %T", f.Name.Name, x)
		case *ast.BinaryExpr:
			if x.Op == token.LAND && !asksFitsFirst(f, x) {
				t.Errorf("%s: && leaves out a step", f.Name.Name)
			}
		case *ast.SelectorExpr:
			if x.Sel.Name == "None" && f.Name.Name != "On" {
				t.Errorf("%s: asks None", f.Name.Name)
			}
		}
		return true
	})
}

// asksOnAlone tells whether a condition is !On(..), or several of them.
func asksOnAlone(e ast.Expr) bool {
	switch x := e.(type) {
	case *ast.BinaryExpr:
		return x.Op == token.LOR && asksOnAlone(x.X) && asksOnAlone(x.Y)
	case *ast.UnaryExpr:
		call, ok := x.X.(*ast.CallExpr)
		if !ok || x.Op != token.NOT {
			return false
		}
		name, ok := call.Fun.(*ast.Ident)
		return ok && name.Name == "On"
	}
	return false
}

// asksFitsFirst tells whether what && may leave out is left out of no point.
func asksFitsFirst(f *ast.FuncDecl, e *ast.BinaryExpr) bool {
	first, ok := e.X.(*ast.BinaryExpr)
	if !ok || f.Name.Name != "On" {
		return false
	}
	name, ok := first.X.(*ast.Ident)
	return ok && name.Name == "fits"
}
