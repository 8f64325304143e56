package der

import (
	"bytes"
	"go/ast"
	"go/parser"
	"go/token"
	"math/rand"
	"os"
	"slices"
	"strconv"
	"strings"
	"testing"

	"escutcheon/api"
)

// P12.3, R2

const around = 64

// roomy lays bytes into greater memory: who appends to them writes behind them.
func roomy(b []byte) []byte {
	return slices.Concat(bytes.Repeat([]byte{0x11}, around), b, bytes.Repeat([]byte{0x22}, around))
}

// inner is what roomy laid around.
func inner(all []byte) []byte { return all[around : len(all)-around] }

// roomyTlv is the same element with room behind each of its lists, in which something stands.
func roomyTlv(x api.Tlv) api.Tlv {
	x.Body = inner(roomy(x.Body))
	kids := make([]api.Tlv, 0, len(x.Kids)+2)
	for _, kid := range x.Kids {
		kids = append(kids, roomyTlv(kid))
	}
	mark := api.Tlv{Class: 9, Tag: 9, Body: []byte{9}}
	x.Kids = append(kids, mark, mark)[:len(kids)]
	return x
}

// clone is the same element, whatever stands behind its lists taken along.
func clone(x api.Tlv) api.Tlv {
	x.Body = slices.Clone(x.Body[:cap(x.Body)])[:len(x.Body)]
	behind, kids := x.Kids[:cap(x.Kids)], []api.Tlv(nil)
	for _, kid := range behind {
		kids = append(kids, clone(kid))
	}
	x.Kids = kids[:len(x.Kids)]
	return x
}

// sameRoom tells whether two elements are alike, whatever stands behind their lists taken along.
func sameRoom(a, b api.Tlv) bool {
	if len(a.Kids) != len(b.Kids) || len(a.Body) != len(b.Body) {
		return false
	}
	room := min(cap(a.Kids), cap(b.Kids))
	return a.Class == b.Class && a.Tag == b.Tag && a.Made == b.Made &&
		bytes.HasPrefix(b.Body[:cap(b.Body)], a.Body[:cap(a.Body)]) &&
		slices.EqualFunc(a.Kids[:room], b.Kids[:room], sameRoom)
}

// spoil changes all of an element, and what stands behind its lists.
func spoil(x *api.Tlv) {
	flip(x.Body[:cap(x.Body)])
	kids := x.Kids[:cap(x.Kids)]
	for i := range kids {
		spoil(&kids[i])
	}
	x.Class, x.Tag, x.Made = x.Class+1, x.Tag+1, !x.Made
}

func flip(b []byte) {
	for i := range b {
		b[i] ^= 0xff
	}
}

func handedIn() []api.Tlv {
	all := []api.Tlv{
		{}, {Made: true}, {Tag: 4, Body: []byte{7}}, listOf(), listOf(api.Tlv{Tag: 4, Body: []byte{7}}),
		listOf(api.Tlv{Tag: 4, Body: bytesOf(3, 7)}, api.Tlv{Tag: 4, Body: bytesOf(3, 8)}, listOf(), listed(3, api.Tlv{Tag: 2, Body: []byte{5}})),
		listOf(api.Tlv{Tag: 4, Body: bytesOf(200, 7)}, api.Tlv{Tag: 4, Body: bytesOf(300, 8)}),
	}
	r := rand.New(rand.NewSource(17))
	for range 200 {
		all = append(all, someTlv(r, 1+r.Intn(5)))
	}
	return all
}

func TestWhatIsHandedInStays(t *testing.T) {
	for _, x := range handedIn() {
		given, want := roomyTlv(x), wantWrite(x, nil)
		was := clone(given)
		checkWrite(t, given, want)
		if !sameRoom(given, was) {
			t.Errorf("%s was written, and has changed, or what stands behind it", tell(x))
		}
		all := roomy(want)
		wasAll := slices.Clone(all)
		checkParse(t, inner(all), x)
		if !bytes.Equal(all, wasAll) {
			t.Errorf("%s was read, and has changed, or what lies around it", short(want))
		}
	}
}

func TestWhatIsRefusedStays(t *testing.T) {
	for what, x := range unsound() {
		for where, outer := range within(x) {
			if strings.Contains(where, "behind") {
				continue // some megabytes each, and no other steps
			}
			given := roomyTlv(outer)
			was := clone(given)
			checkUnwritten(t, what, given, api.ErrArg)
			if !sameRoom(given, was) {
				t.Errorf("%s, %s: refused, and has changed", what, where)
			}
		}
	}
	deep := roomyTlv(listed(16, api.Tlv{Tag: 2, Body: []byte{5}}))
	was := clone(deep)
	checkUnwritten(t, "too deep", deep, api.ErrDepth)
	if !sameRoom(deep, was) {
		t.Error("too deep: refused, and has changed")
	}
	for _, told := range []string{"", "1f 00", "02", "02 80", "02 81", "02 81 05", "02 01", "05 00 00", "30 02 02 01 05", "30 04 05 00 02 01"} {
		all := roomy(bytesFrom(told))
		wasAll := slices.Clone(all)
		checkBoth(t, inner(all))
		if !bytes.Equal(all, wasAll) {
			t.Errorf("%s: refused, and has changed, or what lies around it", told)
		}
	}
}

// What stands in the memory behind b is no part of it.
func TestRoomBehindDoesNotCount(t *testing.T) {
	whole := wantWrite(listOf(api.Tlv{Tag: 4, Body: bytesOf(130, 9)}, api.Tlv{Tag: 4, Body: bytesOf(3, 9)}), nil)
	for n := range whole {
		checkRefused(t, whole[:n], amiss{min(n, 1), api.ErrShort})
	}
	checkParse(t, append(slices.Clone(whole), 5, 0)[:len(whole)], mustParse(t, whole))
}

func mustParse(t *testing.T, b []byte) api.Tlv {
	t.Helper()
	x, bad := wantParse(b)
	if bad.code != 0 {
		t.Fatal(bad)
	}
	return x
}

func TestAnswersStay(t *testing.T) {
	for _, x := range handedIn() {
		want := wantWrite(x, nil)
		given := roomyTlv(x)
		got, err := Write(given)
		if err != nil {
			t.Fatal(err)
		}
		spoil(&given)
		if !bytes.Equal(got, want) {
			t.Errorf("%s was written, and has changed with what was handed in", tell(x))
		}
		all := slices.Clone(want)
		read, err := Parse(all)
		if err != nil {
			t.Fatal(err)
		}
		flip(all)
		if !same(read, x) {
			t.Errorf("%s was read, and has changed with what was handed in", tell(x))
		}
		// Nothing is kept: the same memory with other bytes has another answer.
		checkBoth(t, all)
		flip(all)
		checkParse(t, all, x)
	}
}

// Who changes an answer changes nothing else: not what was handed in, and not another answer.
func TestAnswersAreNewMemory(t *testing.T) {
	for _, x := range handedIn() {
		given, want := roomyTlv(x), wantWrite(x, nil)
		was := clone(given)
		first, err1 := Write(given)
		second, err2 := Write(given)
		all := roomy(want)
		wasAll := slices.Clone(all)
		third, err3 := Parse(inner(all))
		fourth, err4 := Parse(inner(all))
		if err1 != nil || err2 != nil || err3 != nil || err4 != nil {
			t.Fatal(err1, err2, err3, err4)
		}
		flip(first[:cap(first)])
		spoil(&third)
		if !sameRoom(given, was) || !bytes.Equal(all, wasAll) {
			t.Errorf("%s shares memory with an answer", tell(x))
		}
		if !bytes.Equal(second, want) || !same(fourth, x) {
			t.Errorf("%s: two answers share memory", tell(x))
		}
	}
}

// bodies are all lists of bytes in an element, and lists all lists of elements.
func bodies(x api.Tlv) [][]byte {
	all := [][]byte{x.Body}
	for _, kid := range x.Kids {
		all = append(all, bodies(kid)...)
	}
	return all
}

func lists(x api.Tlv) [][]api.Tlv {
	all := [][]api.Tlv{x.Kids}
	for _, kid := range x.Kids {
		all = append(all, lists(kid)...)
	}
	return all
}

// No two lists of one answer share memory: who changes one, or what is behind it, changes no other.
func TestListsOfOneAnswerAreApart(t *testing.T) {
	for _, x := range handedIn() {
		got, err := Parse(wantWrite(x, nil))
		if err != nil {
			t.Fatal(err)
		}
		all, want := bodies(got), bodies(clone(got))
		for i, body := range all {
			flip(body[:cap(body)])
			for j := range all {
				if j != i && !bytes.Equal(all[j], want[j]) {
					t.Fatalf("%s: two lists of bytes share memory", tell(x))
				}
			}
			flip(body[:cap(body)])
		}
		for _, list := range lists(got) {
			_ = append(list, api.Tlv{Class: 9}, api.Tlv{Class: 9})
			if !same(got, x) {
				t.Fatalf("%s: two lists of elements share memory", tell(x))
			}
		}
	}
}

// An element may be handed in that has the same list in several places.
func TestListsMayBeShared(t *testing.T) {
	all := bytesOf(10, 10)
	kids := []api.Tlv{{Tag: 4, Body: all}, {Tag: 4, Body: all[:5]}, {Tag: 4, Body: all[5:]}}
	x := listOf(api.Tlv{Made: true, Kids: kids}, api.Tlv{Made: true, Kids: kids[:1]}, api.Tlv{Made: true, Kids: kids[1:]})
	was := clone(x)
	checkWrite(t, x, wantWrite(was, nil))
	checkWrite(t, x, wantWrite(was, nil))
	if !same(x, was) {
		t.Error("an element with a list in several places has changed")
	}
}

// Answers can't show that nothing is kept: the text can.

func readTexts(t *testing.T) []*ast.File {
	t.Helper()
	entries, err := os.ReadDir(".")
	if err != nil {
		t.Fatal(err)
	}
	var all []*ast.File
	for _, e := range entries {
		if !strings.HasSuffix(e.Name(), ".go") || strings.HasSuffix(e.Name(), "_test.go") {
			continue
		}
		f, err := parser.ParseFile(token.NewFileSet(), e.Name(), nil, 0)
		if err != nil {
			t.Fatal(err)
		}
		all = append(all, f)
	}
	return all
}

func TestKeepsNothing(t *testing.T) {
	for _, f := range readTexts(t) {
		for _, d := range f.Decls {
			if g, ok := d.(*ast.GenDecl); ok && g.Tok == token.VAR {
				t.Error("a variable at package level")
			}
		}
	}
}

func TestCallsOnlyTheLayersNamed(t *testing.T) {
	open := []string{"bytes", "math/bits", "escutcheon/api"}
	for _, f := range readTexts(t) {
		for _, i := range f.Imports {
			if path, err := strconv.Unquote(i.Path.Value); err != nil || !slices.Contains(open, path) {
				t.Errorf("imports %s", i.Path.Value)
			}
		}
	}
}
