package name

import (
	"go/ast"
	"go/parser"
	"go/token"
	"os"
	"slices"
	"strconv"
	"strings"
	"testing"

	"escutcheon/api"
)

// P16.4, R2

const around = 20

// roomy lays items into greater memory: who appends to them writes behind them.
func roomy[T any](l []T, mark T) (all, inner []T) {
	marks := slices.Repeat([]T{mark}, around)
	all = slices.Concat(marks, l, marks)
	return all, all[around : len(all)-around]
}

// roomyElement is an element all of whose lists lie in greater memory, and those lists.
func roomyElement(t api.Tlv) (x api.Tlv, bodies [][]byte, lists [][]api.Tlv) {
	kids := slices.Clone(t.Kids)
	for i, kid := range kids {
		var b [][]byte
		var l [][]api.Tlv
		kids[i], b, l = roomyElement(kid)
		bodies, lists = append(bodies, b...), append(lists, l...)
	}
	body, inner := roomy(t.Body, 0xa5)
	list, innerKids := roomy(kids, api.Tlv{Class: 3, Tag: 30})
	t.Body, t.Kids = inner, innerKids
	return t, append(bodies, body), append(lists, list)
}

// spoil makes all that an element holds something else.
func spoil(bodies [][]byte, lists [][]api.Tlv) {
	for _, b := range bodies {
		for i := range b {
			b[i] ^= 0xff
		}
	}
	for _, l := range lists {
		for i := range l {
			l[i] = api.Tlv{Class: 2, Tag: 29}
		}
	}
}

// lists are all the lists of an answer, as far as their memory goes.
func lists(t api.Tlv) (bodies [][]byte, kids [][]api.Tlv) {
	for _, kid := range t.Kids {
		b, k := lists(kid)
		bodies, kids = append(bodies, b...), append(kids, k...)
	}
	return append(bodies, t.Body[:cap(t.Body)]), append(kids, t.Kids[:cap(t.Kids)])
}

func someNames() []api.Name {
	return []api.Name{nil, {}, {common("a")}, {org("o"), unit("u")}, {common("a"), common("a"), common("a")}, parts(5), parts(8),
		{}, parts(9), {{Kind: 4, Text: "a"}}, {common("a"), org("")}, {common("\x7f"), org("b")},
		{{Kind: 99, Text: "a"}, {Kind: -3, Text: "a"}}, {unit("u"), {Kind: 1<<32 + 3, Text: "a"}}}
}

func TestNamesStay(t *testing.T) {
	mark := api.Part{Kind: 99, Text: "mark"}
	for _, n := range someNames() {
		all, inner := roomy(n, mark)
		was := slices.Clone(all)
		got, err := Element(inner)
		again, errAgain := Element(n)
		if !sameElement(got, again) || err != errAgain {
			t.Errorf("%v: %v, %v; then %v, %v", n, got, err, again, errAgain)
		}
		for _, other := range someNames() {
			otherAll, otherInner := roomy(other, mark)
			otherWas := slices.Clone(otherAll)
			Within(inner, otherInner)
			Within(otherInner, inner)
			Same(inner, otherInner)
			if !slices.Equal(otherAll, otherWas) {
				t.Errorf("%v, or what lies around it, has changed", other)
			}
		}
		if !slices.Equal(all, was) {
			t.Errorf("%v, or what lies around it, has changed", n)
		}
	}
}

// elements are right ones, ones of lists that are no names, and ones that are changed at each place.
func elements() []api.Tlv {
	var l []api.Tlv
	for _, n := range []api.Name{nil, {common("a")}, {common("a"), org("")}, {org("\x7f"), org("b")}, {{Kind: 99, Text: "a"}}, parts(8), parts(30)} {
		l = append(l, elementOf(n))
	}
	x := elementOf(api.Name{org("o"), unit("u")})
	for _, way := range places(x) {
		for _, change := range changes() {
			l = append(l, changed(x, way, change))
		}
	}
	return l
}

func TestElementsStay(t *testing.T) {
	for _, element := range elements() {
		x, bodies, lists := roomyElement(element)
		var wasBodies [][]byte
		for _, b := range bodies {
			wasBodies = append(wasBodies, slices.Clone(b))
		}
		var wasLists [][]api.Tlv
		for _, l := range lists {
			wasLists = append(wasLists, copied(api.Tlv{Kids: l}).Kids)
		}
		checkOfBoth(t, x)
		for i, b := range bodies {
			if !slices.Equal(b, wasBodies[i]) {
				t.Errorf("a body of %v, or what lies around it, has changed", element)
			}
		}
		for i, l := range lists {
			if !slices.EqualFunc(l, wasLists[i], sameElement) {
				t.Errorf("a list of %v, or what lies around it, has changed", element)
			}
		}
	}
}

func TestToldElementsStay(t *testing.T) {
	for _, n := range names() {
		inner := slices.Clone(n)
		got, err := Element(inner)
		if err != nil {
			t.Fatal(n, err)
		}
		for i := range inner {
			inner[i] = api.Part{Kind: 6, Text: "other"}
		}
		if !sameElement(got, elementOf(n)) {
			t.Errorf("the element of %v has changed with the name", n)
		}
		// Nothing is kept: the same memory with other parts has another answer.
		checkElement(t, inner)
		if !sameElement(got, elementOf(n)) {
			t.Errorf("the element of %v has changed with another call", n)
		}
		// The name stays, whatever becomes of its element.
		was := slices.Clone(inner)
		spoil(lists(got))
		if !slices.Equal(inner, was) {
			t.Errorf("the element of %v shares memory with the name", n)
		}
		checkElement(t, n)
	}
}

func TestReadNamesStay(t *testing.T) {
	for _, n := range names() {
		x, bodies, lists := roomyElement(elementOf(n))
		got, err := Of(x)
		if err != nil {
			t.Fatal(n, err)
		}
		spoil(bodies, lists)
		if !slices.Equal(got, n) {
			t.Errorf("%v has changed to %v with its element", n, got)
		}
		if len(n) > 0 {
			checkNotRead(t, x, api.ErrForm)
		}
		checkOf(t, elementOf(parts(8)), parts(8))
		if !slices.Equal(got, n) {
			t.Errorf("%v has changed to %v with another call", n, got)
		}
	}
}

// Each list of an answer is spoilt alone: all the others stay, those of another answer too.
func TestAnswersShareNoMemory(t *testing.T) {
	for _, n := range []api.Name{{common("a")}, {common("a"), common("a")}, {org("o"), unit("u"), common("o")}, parts(8)} {
		first, err1 := Element(n)
		bodies, kids := lists(first)
		if err1 != nil {
			t.Fatal(err1)
		}
		for i := range bodies {
			one, _ := Element(n)
			second, _ := Element(n)
			ofOne, _ := lists(one)
			before := copied(one)
			beforeBodies, _ := lists(before)
			spoil(ofOne[i:i+1], nil)
			for k := range ofOne {
				length := min(len(ofOne[k]), len(beforeBodies[k]))
				if k != i && !slices.Equal(ofOne[k][:length], beforeBodies[k][:length]) {
					t.Errorf("%v: two bodies share memory", n)
				}
			}
			if !sameElement(second, elementOf(n)) {
				t.Errorf("%v: two answers share a body", n)
			}
		}
		for i := range kids {
			one, _ := Element(n)
			second, _ := Element(n)
			_, ofOne := lists(one)
			was := make([][]api.Tlv, len(ofOne))
			for k := range ofOne {
				was[k] = slices.Clone(ofOne[k])
			}
			spoil(nil, ofOne[i:i+1])
			for k := range ofOne {
				if k != i && !slices.EqualFunc(ofOne[k], was[k], sameShallow) {
					t.Errorf("%v: two lists share memory", n)
				}
			}
			if !sameElement(second, elementOf(n)) {
				t.Errorf("%v: two answers share a list", n)
			}
		}
		x := elementOf(n)
		one, _ := Of(x)
		second, _ := Of(x)
		clear(one[:cap(one)])
		if !slices.Equal(second, n) {
			t.Errorf("%v: two answers share memory", n)
		}
		checkOf(t, x, n)
	}
}

// sameShallow holds only the elements themselves against each other.
func sameShallow(a, b api.Tlv) bool {
	return a.Class == b.Class && a.Tag == b.Tag && a.Made == b.Made && len(a.Body) == len(b.Body) && len(a.Kids) == len(b.Kids)
}

// Answers can't show that nothing is kept: the text can.

func readTexts(t *testing.T) []*ast.File {
	t.Helper()
	entries, err := os.ReadDir(".")
	if err != nil {
		t.Fatal(err)
	}
	var all []*ast.File
	for _, e := range entries {
		if !strings.HasSuffix(e.Name(), ".go") || strings.HasSuffix(e.Name(), "_test.go") {
			continue
		}
		f, err := parser.ParseFile(token.NewFileSet(), e.Name(), nil, 0)
		if err != nil {
			t.Fatal(err)
		}
		all = append(all, f)
	}
	return all
}

func TestKeepsNothing(t *testing.T) {
	for _, f := range readTexts(t) {
		for _, d := range f.Decls {
			if g, ok := d.(*ast.GenDecl); ok && g.Tok == token.VAR {
				t.Error("a variable at package level")
			}
		}
	}
}

func TestCallsOnlyTheLayersNamed(t *testing.T) {
	open := []string{"slices", "escutcheon/api", "escutcheon/prim"}
	for _, f := range readTexts(t) {
		for _, i := range f.Imports {
			if path, err := strconv.Unquote(i.Path.Value); err != nil || !slices.Contains(open, path) {
				t.Errorf("imports %s", i.Path.Value)
			}
		}
	}
}
