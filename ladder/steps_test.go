package ladder

import (
	"go/ast"
	"go/parser"
	"go/token"
	"go/types"
	"slices"
	"testing"
)

// Steps are noted where they are gone, but answers can't show that nothing else hangs on the
// number: the text can.
func TestGoesOneWay(t *testing.T) {
	file, err := parser.ParseFile(token.NewFileSet(), "ladder.go", nil, 0)
	if err != nil {
		t.Fatal(err)
	}
	for _, d := range file.Decls {
		if f, ok := d.(*ast.FuncDecl); ok {
			findChoices(t, f)
		}
	}
}

func findChoices(t *testing.T, f *ast.FuncDecl) {
	ast.Inspect(f, func(n ast.Node) bool {
		switch x := n.(type) {
		case *ast.IfStmt:
			if !asksOnAlone(x.Cond) {
				t.Errorf("%s: chooses its steps by something else than whether there is a point", f.Name.Name)
			}
		case *ast.RangeStmt:
			if name, ok := x.X.(*ast.Ident); !ok || name.Name != "bits" {
				t.Errorf("%s: ranges over something else than all bits", f.Name.Name)
			}
		case *ast.ForStmt, *ast.SwitchStmt, *ast.TypeSwitchStmt, *ast.SelectStmt, *ast.BranchStmt:
			t.Errorf("%s: chooses its steps by %T", f.Name.Name, x)
		case *ast.BinaryExpr:
			if x.Op == token.LAND || x.Op == token.LOR {
				t.Errorf("%s: %v leaves out a step", f.Name.Name, x.Op)
			}
		case *ast.IndexExpr:
			t.Errorf("%s: looks something up by a place", f.Name.Name)
		case *ast.SelectorExpr:
			if x.Sel.Name == "None" {
				t.Errorf("%s: asks None", f.Name.Name)
			}
		}
		return true
	})
}

// asksOnAlone tells whether a condition is !curve.On(..).
func asksOnAlone(e ast.Expr) bool {
	not, ok := e.(*ast.UnaryExpr)
	if !ok || not.Op != token.NOT {
		return false
	}
	call, ok := not.X.(*ast.CallExpr)
	if !ok {
		return false
	}
	name, ok := call.Fun.(*ast.SelectorExpr)
	return ok && name.Sel.Name == "On"
}

// The steps that are noted are those that are gone: each note stands behind its step.
func TestNotesTellWhatClimbDoes(t *testing.T) {
	file, err := parser.ParseFile(token.NewFileSet(), "ladder.go", nil, 0)
	if err != nil {
		t.Fatal(err)
	}
	var told []string
	for _, d := range file.Decls {
		if f, ok := d.(*ast.FuncDecl); ok && f.Name.Name == "climb" {
			told = callsOf(f)
		}
	}
	want := []string{
		"infinity()",
		"add(product, product)", "note(api.StepDouble)",
		"add(product, p)", "note(api.StepAdd)",
		"pick(limb.Bit(k, bits - 1 - i), product, more)", "note(api.StepPick)",
	}
	if !slices.Equal(told, want) {
		t.Errorf("climb calls %q", told)
	}
}

// callsOf are a function's calls, in the text's order, but for those among a call's arguments.
func callsOf(f *ast.FuncDecl) []string {
	var calls []string
	ast.Inspect(f, func(n ast.Node) bool {
		call, ok := n.(*ast.CallExpr)
		if ok {
			calls = append(calls, types.ExprString(call))
		}
		return !ok
	})
	return calls
}
