package aes

import (
	"go/ast"
	"go/parser"
	"go/token"
	"go/types"
	"slices"
	"testing"
)

// Answers can't show that no step hangs on a byte (P9.1, T4), nor that nothing is kept: the text can.

func readTexts(t *testing.T) []*ast.File {
	t.Helper()
	var all []*ast.File
	for _, name := range []string{"aes.go", "lanes.go"} {
		f, err := parser.ParseFile(token.NewFileSet(), name, nil, 0)
		if err != nil {
			t.Fatal(err)
		}
		all = append(all, f)
	}
	return all
}

func TestKeepsNothing(t *testing.T) {
	for _, f := range readTexts(t) {
		for _, d := range f.Decls {
			if g, ok := d.(*ast.GenDecl); ok && g.Tok == token.VAR {
				t.Error("a variable at package level")
			}
		}
	}
}

func TestGoesOneWay(t *testing.T) {
	for _, f := range readTexts(t) {
		for _, d := range f.Decls {
			if f, ok := d.(*ast.FuncDecl); ok {
				findChoices(t, f)
			}
		}
	}
}

func findChoices(t *testing.T, f *ast.FuncDecl) {
	hangs := func(what string, exprs ...ast.Expr) {
		for _, e := range exprs {
			for _, name := range asked(e) {
				t.Errorf("%s: %s hangs on %s", f.Name.Name, what, name)
			}
		}
	}
	ast.Inspect(f, func(n ast.Node) bool {
		switch x := n.(type) {
		case *ast.IfStmt:
			if told := types.ExprString(x.Cond); told != "len(key) != keySize" {
				t.Errorf("%s: chooses its steps by %s", f.Name.Name, told)
			}
		case *ast.RangeStmt:
			hangs("a range", x.X)
		case *ast.ForStmt:
			hangs("a loop", x.Cond)
		case *ast.SwitchStmt:
			hangs("a switch", x.Tag)
		case *ast.CaseClause:
			hangs("a case", x.List...)
		case *ast.IndexExpr:
			hangs("an index", x.Index)
		case *ast.SliceExpr:
			if x.Low != nil || x.High != nil {
				t.Errorf("%s: cuts a piece out", f.Name.Name)
			}
		case *ast.BinaryExpr:
			findUnevenSteps(t, f, x, hangs)
		case *ast.AssignStmt:
			findPlacesMade(hangs, x)
		case *ast.CallExpr:
			findPlacesHandedOn(hangs, x)
		case *ast.TypeSwitchStmt, *ast.SelectStmt, *ast.BranchStmt, *ast.DeferStmt, *ast.GoStmt:
			t.Errorf("%s: chooses its steps by %T", f.Name.Name, x)
		}
		return true
	})
}

// findUnevenSteps finds what a processor may do by other steps for other numbers.
func findUnevenSteps(t *testing.T, f *ast.FuncDecl, x *ast.BinaryExpr, hangs func(string, ...ast.Expr)) {
	switch x.Op {
	case token.LAND, token.LOR:
		t.Errorf("%s: %v leaves out a step", f.Name.Name, x.Op)
	case token.SHL, token.SHR:
		hangs("how far a shift goes", x.Y)
	case token.QUO, token.REM:
		hangs("a quotient", x.X, x.Y)
	}
}

// findPlacesMade finds places that are made of bytes.
func findPlacesMade(hangs func(string, ...ast.Expr), x *ast.AssignStmt) {
	for i, left := range x.Lhs {
		if name, ok := left.(*ast.Ident); ok && slices.Contains(places(), name.Name) {
			hangs("the place "+name.Name, x.Rhs[i])
		}
	}
}

// findPlacesHandedOn finds bytes that are handed on where a place is meant.
func findPlacesHandedOn(hangs func(string, ...ast.Expr), x *ast.CallExpr) {
	switch types.ExprString(x.Fun) {
	case "at":
		hangs("a row", x.Args[0])
	case "rotated", "bits.RotateLeft32":
		hangs("how far bits are turned", x.Args[1])
	}
}

// places are the names of numbers that are the same whatever the bytes are.
func places() []string { return []string{"i", "j", "r", "c", "half", "by"} }

// asked are the names that an expression hangs on, but for places and constants.
func asked(e ast.Expr) []string {
	open := append(places(), "keySize", "blockSize", "wordSize", "columns", "rounds", "keyWords", "allWords", "lane")
	var names []string
	ast.Inspect(e, func(n ast.Node) bool {
		if name, ok := n.(*ast.Ident); ok && !slices.Contains(open, name.Name) {
			names = append(names, name.Name)
		}
		return true
	})
	return names
}

// A column's bytes are told by a closure, and rounds are ranged over.
func TestWays(t *testing.T) {
	closures, ranges := map[string]int{}, map[string]int{}
	for _, f := range readTexts(t) {
		for _, d := range f.Decls {
			f, ok := d.(*ast.FuncDecl)
			if !ok {
				continue
			}
			ast.Inspect(f, func(n ast.Node) bool {
				switch x := n.(type) {
				case *ast.FuncLit:
					closures[f.Name.Name]++
				case *ast.RangeStmt:
					ranges[f.Name.Name+": "+types.ExprString(x.X)]++
				}
				return true
			})
		}
	}
	if closures["Mixed"] != 1 {
		t.Errorf("Mixed has %d closures", closures["Mixed"])
	}
	if ranges["code: rounds - 1"] != 1 {
		t.Errorf("code ranges over no rounds: %v", ranges)
	}
}
