package cert

import (
	"bytes"
	"go/ast"
	"go/parser"
	"go/token"
	"os"
	"slices"
	"strconv"
	"strings"
	"testing"

	"escutcheon/api"
)

// P17.4, R2

const around = 20

// roomy lays items into greater memory: who appends to them writes behind them.
func roomy[T any](l []T, mark T) (all, inner []T) {
	marks := slices.Repeat([]T{mark}, around)
	all = slices.Concat(marks, l, marks)
	return all, all[around : len(all)-around]
}

// memory is all the lists of a certificate, as far as their memory goes.
type memory struct {
	bytes [][]byte
	parts [][]api.Part
	ids   [][]uint64
	lists [][][]uint64
	names [][]api.Name
}

func memoryOf(c api.Cert) memory {
	m := memory{
		bytes: [][]byte{c.Serial[:cap(c.Serial)], c.Body[:cap(c.Body)]},
		parts: [][]api.Part{c.Issuer[:cap(c.Issuer)], c.Subject[:cap(c.Subject)]},
		lists: [][][]uint64{c.Uses[:cap(c.Uses)]},
		names: [][]api.Name{c.Permit[:cap(c.Permit)], c.Exclude[:cap(c.Exclude)]},
	}
	for _, id := range c.Uses {
		m.ids = append(m.ids, id[:cap(id)])
	}
	for _, n := range append(slices.Clone(c.Permit), c.Exclude...) {
		m.parts = append(m.parts, n[:cap(n)])
	}
	return m
}

// spoilers each make something else of one list.
func (m memory) spoilers() []func() {
	var all []func()
	for _, l := range m.bytes {
		all = append(all, func() {
			for i := range l {
				l[i] ^= 0xff
			}
		})
	}
	for _, l := range m.parts {
		all = append(all, func() { fill(l, api.Part{Kind: 99, Text: "spoilt"}) })
	}
	for _, l := range m.ids {
		all = append(all, func() { fill(l, 98765) })
	}
	for _, l := range m.lists {
		all = append(all, func() { fill(l, []uint64{9, 9}) })
	}
	for _, l := range m.names {
		all = append(all, func() { fill(l, api.Name{{Kind: 98}}) })
	}
	return all
}

func fill[T any](l []T, x T) {
	for i := range l {
		l[i] = x
	}
}

// roomyCert is a certificate all of whose lists lie in greater memory, and that memory.
func roomyCert(c api.Cert) (api.Cert, memory) {
	var m memory
	name := func(n api.Name) api.Name {
		all, inner := roomy([]api.Part(n), api.Part{Kind: 99, Text: "mark"})
		m.parts = append(m.parts, all)
		return inner
	}
	names := func(l []api.Name) []api.Name {
		var own []api.Name
		for _, n := range l {
			own = append(own, name(n))
		}
		all, inner := roomy(own, api.Name{{Kind: 97, Text: "mark"}})
		m.names = append(m.names, all)
		return inner
	}
	row := func(b []byte) []byte {
		all, inner := roomy(b, 0xa5)
		m.bytes = append(m.bytes, all)
		return inner
	}
	var uses [][]uint64
	for _, id := range c.Uses {
		all, inner := roomy(id, 96)
		m.ids = append(m.ids, all)
		uses = append(uses, inner)
	}
	all, inner := roomy(uses, []uint64{95})
	m.lists = append(m.lists, all)
	c.Serial, c.Body, c.Issuer, c.Subject, c.Uses, c.Permit, c.Exclude = row(c.Serial), row(c.Body), name(c.Issuer), name(c.Subject), inner, names(c.Permit), names(c.Exclude)
	return c, m
}

// copied is a copy of all that lies there.
func (m memory) copied() memory {
	var own memory
	for _, l := range m.bytes {
		own.bytes = append(own.bytes, bytes.Clone(l))
	}
	for _, l := range m.parts {
		own.parts = append(own.parts, slices.Clone(l))
	}
	for _, l := range m.ids {
		own.ids = append(own.ids, slices.Clone(l))
	}
	for _, l := range m.lists {
		var lists [][]uint64
		for _, id := range l {
			lists = append(lists, slices.Clone(id))
		}
		own.lists = append(own.lists, lists)
	}
	for _, l := range m.names {
		var names []api.Name
		for _, n := range l {
			names = append(names, slices.Clone(n))
		}
		own.names = append(own.names, names)
	}
	return own
}

func (m memory) same(o memory) bool {
	return slices.EqualFunc(m.bytes, o.bytes, bytes.Equal) &&
		slices.EqualFunc(m.parts, o.parts, slices.Equal) &&
		slices.EqualFunc(m.ids, o.ids, slices.Equal) &&
		slices.EqualFunc(m.lists, o.lists, func(a, b [][]uint64) bool { return slices.EqualFunc(a, b, slices.Equal) }) &&
		slices.EqualFunc(m.names, o.names, func(a, b []api.Name) bool {
			return slices.EqualFunc(a, b, func(a, b api.Name) bool { return slices.Equal(a, b) })
		})
}

// someCerts are right ones, and wrong ones.
func someCerts() []api.Cert {
	var all []api.Cert
	for i, one := range append(rightChanges(), wrongChanges()...) {
		c := full()
		if i%4 == 0 {
			c = bare()
		}
		one.do(&c)
		all = append(all, c)
	}
	return append(all, api.Cert{})
}

func TestCertificatesStay(t *testing.T) {
	for _, c := range someCerts() {
		want, wantErr := Body(c)
		own, m := roomyCert(c)
		was := m.copied()
		got, err := Body(own)
		if !bytes.Equal(got, want) || err != wantErr {
			t.Errorf("%+v: %x, %v, and in greater memory %x, %v", c, want, wantErr, got, err)
		}
		if !m.same(was) {
			t.Errorf("%+v, or what lies around its lists, has changed", c)
		}
		// What was answered stays.
		for _, spoil := range m.spoilers() {
			spoil()
			if !bytes.Equal(got, want) {
				t.Fatalf("the body of %+v has changed with it", c)
			}
		}
		was = m.copied()
		fill(got[:cap(got)], 0x5a)
		if !m.same(was) {
			t.Errorf("the body of %+v shares memory with it", c)
		}
	}
}

func TestBodiesStay(t *testing.T) {
	all := [][]byte{wantBody(bare()), wantBody(full()), {5, 0}, {5, 0, 0}, {0x30}, {}, written(nested(15)), written(nested(16)), padded(1<<20, 2)}
	for _, body := range all {
		for _, s := range []api.Sig{someSig(), {}} {
			want, wantErr := Encode(body, s)
			for _, mark := range []byte{0, 0x30, 0xff} {
				room, inner := roomy(body, mark)
				was := bytes.Clone(room)
				got, err := Encode(inner, s)
				if !bytes.Equal(got, want) || !sameError(err, wantErr) {
					t.Errorf("Encode(%s) hangs on what lies around", short(body))
				}
				if !bytes.Equal(room, was) {
					t.Errorf("%s, or what lies around it, has changed", short(body))
				}
				fill(room, 0x77)
				if !bytes.Equal(got, want) {
					t.Errorf("the certificate of %s has changed with it", short(body))
				}
				fill(got[:cap(got)], 0x5a)
				if bytes.ContainsFunc(room, func(r rune) bool { return r != 0x77 }) {
					t.Errorf("the certificate of %s shares memory with it", short(body))
				}
			}
		}
	}
}

func TestReadBytesStay(t *testing.T) {
	var all [][]byte
	for _, c := range []api.Cert{bare(), full()} {
		x := treeOf(c)
		for _, way := range places(x) {
			for _, change := range elementChanges() {
				all = append(all, written(changed(x, way, change)))
			}
		}
		all = append(all, written(x), append(written(x), 0), written(x)[:50])
	}
	for _, b := range append(all, nil) {
		want, wantErr := Decode(b)
		for _, mark := range []byte{0, 0xff} {
			room, inner := roomy(b, mark)
			was := bytes.Clone(room)
			got, err := Decode(inner)
			if !sameCert(got, want) || !sameError(err, wantErr) {
				t.Errorf("Decode(%x) hangs on what lies around", b)
			}
			if !bytes.Equal(room, was) {
				t.Errorf("%x, or what lies around it, has changed", b)
			}
			fill(room, 0x77)
			if !sameCert(got, want) {
				t.Errorf("the certificate of %x has changed with it", b)
			}
			for _, spoil := range memoryOf(got).spoilers() {
				spoil()
			}
			if bytes.ContainsFunc(room, func(r rune) bool { return r != 0x77 }) {
				t.Errorf("the certificate of %x shares memory with it", b)
			}
		}
	}
}

// Each list of an answer is spoilt alone: all the others stay, and another answer too.
func TestListsOfAnAnswerShareNoMemory(t *testing.T) {
	c := full()
	c.Issuer, c.Subject = parts(5), parts(5)
	c.Uses = append(ids(5), ids(3)...)
	// The first of many has no parts, so no memory.
	c.Permit, c.Exclude = slices.Concat(many(6)[1:], many(4)[1:]), slices.Concat(many(6)[1:], many(4)[1:])
	b := wantCert(wantBody(c), someSig())
	want, err := Decode(b)
	if err != nil {
		t.Fatal(err)
	}
	for i := range memoryOf(want).spoilers() {
		one, _ := Decode(b)
		m := memoryOf(one)
		was := m.copied()
		m.spoilers()[i]()
		if n := differing(m, was); n != 1 {
			t.Errorf("%d lists have changed with list %d", n, i)
		}
		if second, err := Decode(b); err != nil || !sameCert(second, want) {
			t.Errorf("another answer has changed with list %d: %+v, %v", i, second, err)
		}
	}
	first, _ := Body(c)
	second, _ := Body(c)
	fill(first[:cap(first)], 0x5a)
	if !bytes.Equal(second, wantBody(c)) {
		t.Error("two bodies share memory")
	}
	first, _ = Encode(second, someSig())
	third, _ := Encode(second, someSig())
	fill(first[:cap(first)], 0x5a)
	if !bytes.Equal(third, b) || !bytes.Equal(second, wantBody(c)) {
		t.Error("two certificates share memory")
	}
	checkEncode(t, second, someSig())
}

// differing counts the lists that aren't the same; a list of lists is asked for its own items alone.
func differing(m, o memory) int {
	n := 0
	for i := range m.bytes {
		n += count(!bytes.Equal(m.bytes[i], o.bytes[i]))
	}
	for i := range m.parts {
		n += count(!slices.Equal(m.parts[i], o.parts[i]))
	}
	for i := range m.ids {
		n += count(!slices.Equal(m.ids[i], o.ids[i]))
	}
	// Lists that were spoilt hold others; those whose items were spoilt hold the same ones, as long.
	for i := range m.lists {
		n += count(!slices.EqualFunc(m.lists[i], o.lists[i], func(a, b []uint64) bool { return len(a) == len(b) }))
	}
	for i := range m.names {
		n += count(!slices.EqualFunc(m.names[i], o.names[i], func(a, b api.Name) bool { return len(a) == len(b) }))
	}
	return n
}

func count(yes bool) int {
	if yes {
		return 1
	}
	return 0
}

// What is asked for in between changes nothing, and nothing is known from before.
func TestCallsKnowNothingOfEachOther(t *testing.T) {
	full := wantCert(wantBody(full()), someSig())
	bare := written(withExts(ext("551d0e", nil)))
	wantFull, _ := wantDecode(full)
	wantBare, _ := wantDecode(bare)
	for range 3 {
		checkDecode(t, "full", full, wantFull)
		checkDecode(t, "bare", bare, wantBare)
		checkNoCert(t, "none", bytesFrom("30 00"))
		checkNoBody(t, "none", api.Cert{})
		checkNotEncoded(t, []byte{5, 0}, api.Sig{}, api.ErrRange)
	}
}

// Answers can't show that nothing is kept: the text can.

func readTexts(t *testing.T) []*ast.File {
	t.Helper()
	entries, err := os.ReadDir(".")
	if err != nil {
		t.Fatal(err)
	}
	var all []*ast.File
	for _, e := range entries {
		if !strings.HasSuffix(e.Name(), ".go") || strings.HasSuffix(e.Name(), "_test.go") {
			continue
		}
		f, err := parser.ParseFile(token.NewFileSet(), e.Name(), nil, 0)
		if err != nil {
			t.Fatal(err)
		}
		all = append(all, f)
	}
	return all
}

func TestKeepsNothing(t *testing.T) {
	for _, f := range readTexts(t) {
		for _, d := range f.Decls {
			if g, ok := d.(*ast.GenDecl); ok && g.Tok == token.VAR {
				t.Error("a variable at package level")
			}
		}
	}
}

func TestCallsOnlyTheLayersNamed(t *testing.T) {
	open := []string{
		"bytes", "math/bits", "slices",
		"escutcheon/api", "escutcheon/limb", "escutcheon/curve", "escutcheon/der", "escutcheon/prim", "escutcheon/ecdsa", "escutcheon/name",
	}
	for _, f := range readTexts(t) {
		for _, i := range f.Imports {
			if path, err := strconv.Unquote(i.Path.Value); err != nil || !slices.Contains(open, path) {
				t.Errorf("imports %s", i.Path.Value)
			}
		}
	}
}
