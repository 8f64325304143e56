package crl

import (
	"bytes"
	"go/ast"
	"go/parser"
	"go/token"
	"os"
	"slices"
	"strconv"
	"strings"
	"testing"

	"escutcheon/api"
)

// R2

const around = 20

// roomy lays items into greater memory: who appends to them writes behind them.
func roomy[T any](l []T, mark T) (all, inner []T) {
	marks := slices.Repeat([]T{mark}, around)
	all = slices.Concat(marks, l, marks)
	return all, all[around : len(all)-around]
}

// memory is all the lists of a list of revoked ones, as far as their memory goes.
type memory struct {
	bytes [][]byte
	parts []api.Part
	gone  []api.Gone
}

func memoryOf(c api.Crl) memory {
	m := memory{bytes: [][]byte{c.Body[:cap(c.Body)]}, parts: c.Issuer[:cap(c.Issuer)], gone: c.Gone[:cap(c.Gone)]}
	for _, g := range c.Gone {
		m.bytes = append(m.bytes, g.Serial[:cap(g.Serial)])
	}
	return m
}

// spoilers each make something else of one list.
func (m memory) spoilers() []func() {
	all := []func(){
		func() { fill(m.parts, api.Part{Kind: 99, Text: "spoilt"}) },
		func() { fill(m.gone, api.Gone{Serial: []byte{98, 98}, At: 98}) },
	}
	for _, l := range m.bytes {
		all = append(all, func() {
			for i := range l {
				l[i] ^= 0xff
			}
		})
	}
	return all
}

func fill[T any](l []T, x T) {
	for i := range l {
		l[i] = x
	}
}

// roomyCrl is a list of revoked ones all of whose lists lie in greater memory, and that memory.
func roomyCrl(c api.Crl) (api.Crl, memory) {
	var m memory
	row := func(b []byte) []byte {
		all, inner := roomy(b, 0xa5)
		m.bytes = append(m.bytes, all)
		return inner
	}
	var gone []api.Gone
	for _, g := range c.Gone {
		gone = append(gone, api.Gone{Serial: row(g.Serial), At: g.At})
	}
	c.Body = row(c.Body)
	m.gone, c.Gone = roomy(gone, api.Gone{Serial: []byte{97}, At: 97})
	var issuer []api.Part
	m.parts, issuer = roomy([]api.Part(c.Issuer), api.Part{Kind: 99, Text: "mark"})
	c.Issuer = issuer
	return c, m
}

func goneCopied(gone []api.Gone) []api.Gone {
	var own []api.Gone
	for _, g := range gone {
		own = append(own, api.Gone{Serial: bytes.Clone(g.Serial), At: g.At})
	}
	return own
}

// copied is a copy of all that lies there.
func (m memory) copied() memory {
	own := memory{parts: slices.Clone(m.parts), gone: goneCopied(m.gone)}
	for _, l := range m.bytes {
		own.bytes = append(own.bytes, bytes.Clone(l))
	}
	return own
}

func sameGone(a, b api.Gone) bool { return bytes.Equal(a.Serial, b.Serial) && a.At == b.At }

func (m memory) same(o memory) bool {
	return slices.EqualFunc(m.bytes, o.bytes, bytes.Equal) && slices.Equal(m.parts, o.parts) && slices.EqualFunc(m.gone, o.gone, sameGone)
}

// someCrls are right ones, and wrong ones.
func someCrls() []api.Crl {
	var all []api.Crl
	for i, one := range append(rightChanges(), wrongChanges()...) {
		c := full()
		if i%4 == 0 {
			c = bare()
		}
		one.do(&c)
		all = append(all, c)
	}
	return append(all, api.Crl{})
}

func TestListsStay(t *testing.T) {
	for _, c := range someCrls() {
		want, wantErr := Body(c)
		own, m := roomyCrl(c)
		was := m.copied()
		got, err := Body(own)
		if !bytes.Equal(got, want) || err != wantErr {
			t.Errorf("%+v: %x, %v, and in greater memory %x, %v", c, want, wantErr, got, err)
		}
		if !m.same(was) {
			t.Errorf("%+v, or what lies around its lists, has changed", c)
		}
		// What was answered stays.
		for _, spoil := range m.spoilers() {
			spoil()
			if !bytes.Equal(got, want) {
				t.Fatalf("the body of %+v has changed with it", c)
			}
		}
		was = m.copied()
		fill(got[:cap(got)], 0x5a)
		if !m.same(was) {
			t.Errorf("the body of %+v shares memory with it", c)
		}
	}
}

func TestBodiesStay(t *testing.T) {
	all := [][]byte{wantBody(bare()), wantBody(full()), {5, 0}, {5, 0, 0}, {0x30}, {}, written(nested(15)), written(nested(16)), padded(1<<20, 2)}
	for _, body := range all {
		for _, s := range []api.Sig{someSig(), {}} {
			want, wantErr := Encode(body, s)
			for _, mark := range []byte{0, 0x30, 0xff} {
				room, inner := roomy(body, mark)
				was := bytes.Clone(room)
				got, err := Encode(inner, s)
				if !bytes.Equal(got, want) || !sameError(err, wantErr) {
					t.Errorf("Encode(%s) hangs on what lies around", short(body))
				}
				if !bytes.Equal(room, was) {
					t.Errorf("%s, or what lies around it, has changed", short(body))
				}
				fill(room, 0x77)
				if !bytes.Equal(got, want) {
					t.Errorf("the list of %s has changed with it", short(body))
				}
				fill(got[:cap(got)], 0x5a)
				if bytes.ContainsFunc(room, func(r rune) bool { return r != 0x77 }) {
					t.Errorf("the list of %s shares memory with it", short(body))
				}
			}
		}
	}
}

func TestReadBytesStay(t *testing.T) {
	var all [][]byte
	for _, c := range []api.Crl{bare(), full()} {
		x := treeOf(c)
		for _, way := range places(x) {
			for _, change := range elementChanges() {
				all = append(all, written(changed(x, way, change)))
			}
		}
		all = append(all, written(x), append(written(x), 0), written(x)[:50])
	}
	for _, b := range append(all, nil) {
		want, wantErr := Decode(b)
		for _, mark := range []byte{0, 0xff} {
			room, inner := roomy(b, mark)
			was := bytes.Clone(room)
			got, err := Decode(inner)
			if !sameCrl(got, want) || !sameError(err, wantErr) {
				t.Errorf("Decode(%x) hangs on what lies around", b)
			}
			if !bytes.Equal(room, was) {
				t.Errorf("%x, or what lies around it, has changed", b)
			}
			fill(room, 0x77)
			if !sameCrl(got, want) {
				t.Errorf("the list of %x has changed with it", b)
			}
			for _, spoil := range memoryOf(got).spoilers() {
				spoil()
			}
			if bytes.ContainsFunc(room, func(r rune) bool { return r != 0x77 }) {
				t.Errorf("the list of %x shares memory with it", b)
			}
		}
	}
}

func TestAskingChangesNothing(t *testing.T) {
	serials := append(someSerials(), noSerials()...)
	for i, c := range someCrls() {
		own, m := roomyCrl(c)
		was := m.copied()
		told := bytesFrom(serials[i%len(serials)])
		if len(c.Gone) > 0 && i%2 == 0 {
			told = c.Gone[i%len(c.Gone)].Serial
		}
		for _, mark := range []byte{0, 0xff} {
			room, serial := roomy(told, mark)
			roomWas := bytes.Clone(room)
			if Has(own, serial) != Has(c, told) {
				t.Errorf("Has(%+v, %x) hangs on what lies around", c.Gone, told)
			}
			if !m.same(was) || !bytes.Equal(room, roomWas) {
				t.Errorf("Has(%+v, %x) changes something", c.Gone, told)
			}
		}
	}
}

// Each list of an answer is spoilt alone: all the others stay, and another answer too.
func TestListsOfAnAnswerShareNoMemory(t *testing.T) {
	c := full()
	c.Issuer, c.Gone = parts(5), gones(40)
	b := wantCrl(wantBody(c), someSig())
	want, err := Decode(b)
	if err != nil {
		t.Fatal(err)
	}
	for i := range memoryOf(want).spoilers() {
		one, _ := Decode(b)
		m := memoryOf(one)
		was := m.copied()
		m.spoilers()[i]()
		if n := differing(m, was); n != 1 {
			t.Errorf("%d lists have changed with list %d", n, i)
		}
		if second, err := Decode(b); err != nil || !sameCrl(second, want) {
			t.Errorf("another answer has changed with list %d: %+v, %v", i, second, err)
		}
	}
	first, _ := Body(c)
	second, _ := Body(c)
	fill(first[:cap(first)], 0x5a)
	if !bytes.Equal(second, wantBody(c)) {
		t.Error("two bodies share memory")
	}
	first, _ = Encode(second, someSig())
	third, _ := Encode(second, someSig())
	fill(first[:cap(first)], 0x5a)
	if !bytes.Equal(third, b) || !bytes.Equal(second, wantBody(c)) {
		t.Error("two lists share memory")
	}
	checkEncode(t, second, someSig())
}

// differing counts the lists that aren't the same; one of those that are revoked is asked for its time
// alone, as its serial number is a list of its own.
func differing(m, o memory) int {
	sameTime := func(a, b api.Gone) bool { return a.At == b.At }
	n := count(!slices.Equal(m.parts, o.parts)) + count(!slices.EqualFunc(m.gone, o.gone, sameTime))
	for i := range m.bytes {
		n += count(!bytes.Equal(m.bytes[i], o.bytes[i]))
	}
	return n
}

func count(yes bool) int {
	if yes {
		return 1
	}
	return 0
}

// What is asked for in between changes nothing, and nothing is known from before.
func TestCallsKnowNothingOfEachOther(t *testing.T) {
	full := wantCrl(wantBody(full()), someSig())
	bare := wantCrl(wantBody(bare()), lastSig())
	wantFull, _ := wantDecode(full)
	wantBare, _ := wantDecode(bare)
	for range 3 {
		checkDecode(t, "full", full, wantFull)
		checkHas(t, wantFull, []byte{9}, true)
		checkDecode(t, "bare", bare, wantBare)
		checkHas(t, wantBare, []byte{9}, false)
		checkNoCrl(t, "none", bytesFrom("30 00"))
		checkNoBody(t, "none", api.Crl{This: firstUTC - 1})
		checkNotEncoded(t, []byte{5, 0}, api.Sig{}, api.ErrRange)
	}
}

// Answers can't show that nothing is kept: the text can.

func readTexts(t *testing.T) []*ast.File {
	t.Helper()
	entries, err := os.ReadDir(".")
	if err != nil {
		t.Fatal(err)
	}
	var all []*ast.File
	for _, e := range entries {
		if !strings.HasSuffix(e.Name(), ".go") || strings.HasSuffix(e.Name(), "_test.go") {
			continue
		}
		f, err := parser.ParseFile(token.NewFileSet(), e.Name(), nil, 0)
		if err != nil {
			t.Fatal(err)
		}
		all = append(all, f)
	}
	return all
}

func TestKeepsNothing(t *testing.T) {
	for _, f := range readTexts(t) {
		for _, d := range f.Decls {
			if g, ok := d.(*ast.GenDecl); ok && g.Tok == token.VAR {
				t.Error("a variable at package level")
			}
		}
	}
}

func TestCallsOnlyTheLayersNamed(t *testing.T) {
	open := []string{
		"bytes", "slices",
		"escutcheon/api", "escutcheon/der", "escutcheon/prim", "escutcheon/ecdsa", "escutcheon/name",
	}
	for _, f := range readTexts(t) {
		for _, i := range f.Imports {
			if path, err := strconv.Unquote(i.Path.Value); err != nil || !slices.Contains(open, path) {
				t.Errorf("imports %s", i.Path.Value)
			}
		}
	}
}
