package path

import (
	"go/ast"
	"go/parser"
	"go/token"
	"math"
	"os"
	"reflect"
	"slices"
	"strconv"
	"strings"
	"testing"

	"escutcheon/api"
)

// P19.3, R2, P1

const beside = 3

// roomy lays items into greater memory: who appends to them writes behind them.
func roomy[T any](l []T, mark T) []T {
	all := slices.Concat(slices.Repeat([]T{mark}, beside), l, slices.Repeat([]T{mark}, beside))
	return all[beside : beside+len(l)]
}

// behind is all that a list's memory holds, also behind its end.
func behind[T any](l []T) []T { return l[:cap(l)] }

func roomyName(n api.Name) api.Name { return roomy([]api.Part(n), api.Part{Kind: 99, Text: "mark"}) }

func roomyNames(l []api.Name) []api.Name {
	var own []api.Name
	for _, n := range l {
		own = append(own, roomyName(n))
	}
	return roomy(own, api.Name{{Kind: 98, Text: "mark"}})
}

func roomyCert(c api.Cert) api.Cert {
	c.Serial, c.Body = roomy(c.Serial, 0xa5), roomy(c.Body, 0xa5)
	c.Issuer, c.Subject = roomyName(c.Issuer), roomyName(c.Subject)
	c.Permit, c.Exclude = roomyNames(c.Permit), roomyNames(c.Exclude)
	var uses [][]uint64
	for _, id := range c.Uses {
		uses = append(uses, roomy(id, 97))
	}
	c.Uses = roomy(uses, []uint64{96})
	return c
}

func roomyList(l api.Crl) api.Crl {
	l.Issuer, l.Body = roomyName(l.Issuer), roomy(l.Body, 0xa5)
	var gone []api.Gone
	for _, g := range l.Gone {
		gone = append(gone, api.Gone{Serial: roomy(g.Serial, 0xa5), At: g.At})
	}
	l.Gone = roomy(gone, api.Gone{Serial: []byte{95}})
	return l
}

// roomyWorld is a world all of whose lists lie in greater memory. Made twice, both are the same, and
// share nothing.
func roomyWorld(w world) world {
	own := world{anchor: w.anchor, now: w.now}
	own.anchor.Name = roomyName(w.anchor.Name)
	for _, c := range w.certs {
		own.certs = append(own.certs, roomyCert(c))
	}
	for _, l := range w.lists {
		own.lists = append(own.lists, roomyList(l))
	}
	own.certs = roomy(own.certs, api.Cert{Path: 94})
	own.lists = roomy(own.lists, api.Crl{This: 94})
	return own
}

// memory is all that a world's lists hold, also behind their ends.
func (w world) memory() []any {
	all := []any{behind(w.certs), behind(w.lists), behind(w.anchor.Name), w.anchor.Key, w.now}
	for _, c := range w.certs {
		all = append(all, behind(c.Serial), behind(c.Body), behind(c.Issuer), behind(c.Subject), behind(c.Uses), behind(c.Permit), behind(c.Exclude))
		for _, id := range c.Uses {
			all = append(all, behind(id))
		}
		for _, n := range slices.Concat(c.Permit, c.Exclude) {
			all = append(all, behind(n))
		}
	}
	for _, l := range w.lists {
		all = append(all, behind(l.Issuer), behind(l.Body), behind(l.Gone))
		for _, g := range l.Gone {
			all = append(all, behind(g.Serial))
		}
	}
	return all
}

// spoil makes something else of all that a world's lists hold.
func (w world) spoil() {
	for _, c := range w.certs {
		for _, l := range [][]byte{behind(c.Serial), behind(c.Body)} {
			fill(l, 0x5a)
		}
		fill(behind(c.Issuer), api.Part{Kind: 1})
		fill(behind(c.Subject), api.Part{Kind: 1})
		fill(behind(c.Uses), []uint64{1})
		fill(behind(c.Permit), api.Name{{Kind: 1}})
		fill(behind(c.Exclude), api.Name{{Kind: 1}})
	}
	for _, l := range w.lists {
		fill(behind(l.Issuer), api.Part{Kind: 1})
		fill(behind(l.Body), 0x5a)
		fill(behind(l.Gone), api.Gone{At: 1})
	}
	fill(behind(w.certs), api.Cert{})
	fill(behind(w.lists), api.Crl{})
	fill(behind(w.anchor.Name), api.Part{Kind: 1})
}

func fill[T any](l []T, x T) {
	for i := range l {
		l[i] = x
	}
}

// keptWorlds are right ones, and some that are amiss at each point.
func keptWorlds() []world {
	allowed := right(2)
	allowed.certs[1].Permit, allowed.certs[1].Exclude = []api.Name{nameAt(1), nameAt(0)}, []api.Name{nameAt(3)}
	all := []world{right(1), right(2), allowed, {}}
	for _, one := range onePerPoint() {
		all = append(all, right(2).with(func(w *world) { one.do(w, 0) }))
	}
	return all
}

func TestWhatIsHandedInStays(t *testing.T) {
	for i, w := range keptWorlds() {
		t.Run(strconv.Itoa(i), func(t *testing.T) {
			t.Parallel()
			own, was := roomyWorld(w), roomyWorld(w)
			checkCheck(t, own, wantCheck(w))
			want, wantErr := wantFind(w)
			got, err := Find(own.certs, own.anchor, own.now, own.lists)
			if !slices.Equal(got, want) || !sameError(err, wantErr) {
				t.Errorf("%v, %v, not %v, %v", got, err, want, wantErr)
			}
			if !reflect.DeepEqual(own.memory(), was.memory()) {
				t.Error("what was handed in, or what lies behind it, has changed")
			}
			// What was answered stays, whatever becomes of that; and the other way round.
			spot := Check(own.certs, own.anchor, own.now, own.lists)
			own.spoil()
			if !slices.Equal(got, want) || !sameError(spot, wantCheck(w)) {
				t.Error("what was answered has changed with what was handed in")
			}
			left := own.memory()
			fill(behind(got), -5)
			if !reflect.DeepEqual(own.memory(), left) {
				t.Error("what was answered shares memory with what was handed in")
			}
		})
	}
}

// Two answers share no memory; neither do two errors.
func TestAnswersShareNoMemory(t *testing.T) {
	w := right(2)
	first, _ := Find(w.certs, w.anchor, w.now, w.lists)
	second, _ := Find(w.certs, w.anchor, w.now, w.lists)
	fill(behind(first), -5)
	if !slices.Equal(second, []int{0, 1}) {
		t.Error(second)
	}
	w.now = 0
	one := Check(w.certs, w.anchor, w.now, w.lists)
	other := Check(w.certs, w.anchor, w.now, w.lists)
	one.(*api.Spot).At = 99
	if !sameError(other, amissAt(1, api.ErrTime)) {
		t.Error(other)
	}
}

// What is asked for in between changes nothing, and nothing is known from before: neither of bodies
// that were others, nor of keys.
func TestCallsKnowNothingOfEachOther(t *testing.T) {
	t.Parallel()
	w := right(1)
	other := w.with(func(w *world) { w.certs[0].Body = []byte("another one") })
	stranger := w.with(func(w *world) { w.anchor.Key = pointOf(strangerKey) })
	for range 2 {
		checkCheck(t, w, nil)
		checkCheck(t, other, amissAt(0, api.ErrSign))
		checkCheck(t, stranger, amissAt(0, api.ErrSign))
		for _, one := range []search{{"right", w, []int{0}}, {"another body", other, nil}, {"another key", stranger, nil}} {
			got, err := Find(one.w.certs, one.w.anchor, one.w.now, one.w.lists)
			one.check(t, got, err)
		}
	}
}

// Whatever is handed in: the calls end, and none panics.
func TestOddArguments(t *testing.T) {
	t.Parallel()
	most := api.U384{math.MaxUint64, math.MaxUint64, math.MaxUint64, math.MaxUint64, math.MaxUint64, math.MaxUint64}
	points := []api.Point{{}, {None: true}, {X: most, Y: most}, {X: most, Y: most, None: true}, pointOf(1)}
	sigs := []api.Sig{{}, {R: most, S: most}, {R: api.U384{1}, S: api.U384{1}}}
	names := []api.Name{nil, {}, {{}}, {{Kind: math.MinInt, Text: "\xff\x00"}}, slices.Repeat(api.Name{{Kind: 3, Text: "a"}}, 1000)}
	ints := []int{0, -1, 1, math.MinInt, math.MaxInt}
	at := func(i int) int { return ints[i%len(ints)] }
	for i := range 200 {
		c := api.Cert{
			Issuer: names[i%5], Subject: names[i/5%5], From: int64(at(i / 3)), To: int64(at(i / 7)), Key: points[i%5], Ca: i%2 == 0, Path: at(i), Usage: at(i / 2),
			Uses: [][]uint64{nil, {}, {math.MaxUint64}}, Permit: names[:i%5], Exclude: names[i%5:], Odd: i%3 == 0, Sig: sigs[i%3],
		}
		l := api.Crl{Issuer: names[i/5%5], This: int64(at(i)), Next: int64(at(i / 4)), Gone: []api.Gone{{}}, Sig: sigs[i/2%3]}
		w := world{slices.Repeat([]api.Cert{c}, i%6), api.Anchor{Name: names[i%5], Key: points[i/5%5]}, int64(at(i / 5)), slices.Repeat([]api.Crl{l}, i/6%6)}
		checkCheck(t, w, wantCheck(w))
		want, wantErr := wantFind(w)
		if got, err := Find(w.certs, w.anchor, w.now, w.lists); !slices.Equal(got, want) || !sameError(err, wantErr) {
			t.Errorf("%v, %v, not %v, %v", got, err, want, wantErr)
		}
	}
}

// With an error the other result is nil; what was found is just as long as it is.
func TestOtherResultsOfErrors(t *testing.T) {
	for _, w := range []world{{}, {certs: make([]api.Cert, 5)}, {lists: make([]api.Crl, 5)}, {certs: make([]api.Cert, 4)}} {
		if got, err := Find(w.certs, w.anchor, w.now, w.lists); got != nil || err == nil {
			t.Error(got, err)
		}
	}
}

// Answers can't show that nothing is kept: the text can.

func readTexts(t *testing.T) []*ast.File {
	t.Helper()
	entries, err := os.ReadDir(".")
	if err != nil {
		t.Fatal(err)
	}
	var all []*ast.File
	for _, e := range entries {
		if !strings.HasSuffix(e.Name(), ".go") || strings.HasSuffix(e.Name(), "_test.go") {
			continue
		}
		f, err := parser.ParseFile(token.NewFileSet(), e.Name(), nil, 0)
		if err != nil {
			t.Fatal(err)
		}
		all = append(all, f)
	}
	return all
}

func TestKeepsNothing(t *testing.T) {
	for _, f := range readTexts(t) {
		for _, d := range f.Decls {
			if g, ok := d.(*ast.GenDecl); ok && g.Tok == token.VAR {
				t.Error("a variable at package level")
			}
		}
	}
}

func TestCallsOnlyTheLayersNamed(t *testing.T) {
	open := []string{"slices", "escutcheon/api", "escutcheon/sha", "escutcheon/ecdsa", "escutcheon/name", "escutcheon/crl"}
	for _, f := range readTexts(t) {
		for _, i := range f.Imports {
			if path, err := strconv.Unquote(i.Path.Value); err != nil || !slices.Contains(open, path) {
				t.Errorf("imports %s", i.Path.Value)
			}
		}
	}
}

// The same signature in many chains is reckoned once: of what was found out nothing is asked again,
// though it be another one now.
func TestSignaturesAreReckonedOnce(t *testing.T) {
	w := right(1)
	j := judge{certs: slices.Clone(w.certs), anchor: w.anchor, now: w.now, lists: slices.Clone(w.lists)}
	if got, err := j.find(); !slices.Equal(got, []int{0}) {
		t.Error(got, err)
	}
	j.certs[0].Body, j.lists[0].Body = []byte{1}, nil
	if got, err := j.find(); !slices.Equal(got, []int{0}) {
		t.Error(got, err)
	}
	j = judge{certs: slices.Clone(w.certs), anchor: w.anchor, now: w.now, lists: w.lists}
	j.certs[0].Body = []byte{1}
	for range 2 {
		if got, err := j.find(); err != api.ErrChain {
			t.Error(got, err)
		}
		j.certs[0].Body = w.certs[0].Body
	}
}
