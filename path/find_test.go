package path

import (
	"slices"
	"strconv"
	"testing"

	"escutcheon/api"
)

// P19.2, P19.4

func TestFindWrittenOut(t *testing.T) {
	// The chapter's.
	if got, err := Find(nil, api.Anchor{}, 0, nil); got != nil || err != api.ErrChain {
		t.Error(got, err)
	}
	w := right(4)
	if got, err := Find([]api.Cert{}, w.anchor, w.now, w.lists); got != nil || err != api.ErrChain {
		t.Error(got, err)
	}
}

func TestFindHowManyCertificatesAndLists(t *testing.T) {
	for certs := range 8 {
		for lists := range 8 {
			if certs <= 4 && lists <= 4 {
				continue
			}
			w := world{slices.Repeat(right(1).certs, certs), right(1).anchor, rightNow, slices.Repeat(right(1).lists, lists)}
			if got, err := Find(w.certs, w.anchor, w.now, w.lists); got != nil || err != api.ErrLong {
				t.Error(certs, lists, got, err)
			}
		}
	}
	var all []search
	for n := 1; n <= 4; n++ {
		w := right(1)
		w.certs = slices.Repeat(w.certs, n)
		w.lists = slices.Repeat(w.lists, n)
		all = append(all, search{strconv.Itoa(n) + " alike", w, []int{0}})
		w.lists = nil
		all = append(all, search{strconv.Itoa(n) + " without a list", w, nil})
	}
	searchAll(t, all)
}

// inPool is a right chain's world with the pool in another order, and where its chain is there.
func inPool(w world, order []int) (world, []int) {
	var chain []int
	for at := range w.certs {
		chain = append(chain, slices.Index(order, at))
	}
	return w.of(order), chain
}

func TestFindsInEveryOrder(t *testing.T) {
	var few, all []search
	for n := 1; n <= 4; n++ {
		for i, order := range orders(n) {
			w, chain := inPool(right(n), order)
			one := search{strconv.Itoa(n) + " in order " + strconv.Itoa(i), w, chain}
			all = append(all, one)
			if i%5 == 0 {
				few = append(few, one)
			}
		}
	}
	searchAll(t, few)
	searchQuickly(t, all)
}

// Each of a chain's points is amiss, at each place: it isn't found, and without it there is none.
func TestFindsNone(t *testing.T) {
	var all []search
	for n := 1; n <= 4; n++ {
		for at := range n {
			for _, one := range onePerPoint() {
				w := right(n).with(func(w *world) { one.do(w, at) })
				all = append(all, search{strconv.Itoa(at) + " of " + strconv.Itoa(n) + ", " + one.what, w, nil})
			}
			w := right(n).with(func(w *world) { w.certs = slices.Delete(w.certs, at, at+1) })
			all = append(all, search{strconv.Itoa(at) + " of " + strconv.Itoa(n) + " is missing", w, nil})
		}
	}
	searchQuickly(t, all)
	searchAll(t, all[len(all)-7:])
}

func poolOf(certs []api.Cert, lists []api.Crl) world {
	return world{certs, right(1).anchor, rightNow, lists}
}

// Strangers beside the chain change nothing but where it lies.
func TestFindsAmongStrangers(t *testing.T) {
	stranger := leafAt(1)
	stranger.Sig.S[0] ^= 1
	later := caAt(1)
	later.From = rightNow + 1
	var all []search
	for i, order := range orders(4) {
		w := right(2)
		w.certs = append(w.certs, stranger, later)
		own, chain := inPool(w, order)
		all = append(all, search{strconv.Itoa(i), own, chain[:2]})
	}
	searchQuickly(t, all)
	searchAll(t, all[9:13])
}

// listsTo are the lists of all that stand above, as far down as to a rank.
func listsTo(rank int) []api.Crl {
	var all []api.Crl
	for i := range rank + 1 {
		all = append(all, listBy(i))
	}
	return all
}

// own is a certificate that its owner's key signed, too, in its own name.
func own(rank int) api.Cert {
	c := caAt(rank)
	c.Issuer = c.Subject
	c.Body = []byte("signed by itself")
	c.Sig = signedBy(keyAt(rank), c.Body)
	return c
}

func TestFindsTheFirstOfSeveral(t *testing.T) {
	leaf, other, ca := leafAt(2), leafAt(2), caAt(1)
	other.Serial = []byte{44}
	direct := leafAt(1)
	root := own(1)
	root.Issuer, root.Subject = nameAt(0), nameAt(0)
	root.Key = pointOf(keyAt(0))
	root.Sig = signedBy(keyAt(0), root.Body)
	revoked := leaf
	revoked.Serial = []byte{7, 7, 7}
	all := []search{
		{"the less first place", poolOf([]api.Cert{direct, direct, direct}, listsTo(0)), []int{0}},
		{"the less first place, though its chain is longer", poolOf([]api.Cert{ca, leaf, direct}, listsTo(1)), []int{1, 0}},
		{"the less first place, though what is next isn't", poolOf([]api.Cert{leaf, direct, ca}, listsTo(1)), []int{0, 2}},
		{"the shorter one, where it is ahead", poolOf([]api.Cert{direct, leaf, ca}, listsTo(1)), []int{0}},
		{"one twice", poolOf([]api.Cert{leaf, ca, ca}, listsTo(1)), []int{0, 1}},
		{"both twice", poolOf([]api.Cert{ca, leaf, leaf, ca}, listsTo(1)), []int{1, 0}},
		{"two leaves", poolOf([]api.Cert{ca, other, leaf}, listsTo(1)), []int{1, 0}},
		{"two leaves, of which the first is revoked", poolOf([]api.Cert{ca, revoked, leaf}, listsTo(1)), []int{2, 0}},

		// A chain ends early, and also goes on.
		{"ends with the leaf", poolOf([]api.Cert{direct, root}, listsTo(0)), []int{0}},
		{"ends with the leaf, behind what it could go on with", poolOf([]api.Cert{root, direct}, listsTo(0)), []int{1}},
		{"ends with the next one", poolOf([]api.Cert{leaf, ca, root}, listsTo(1)), []int{0, 1}},
		{"ends with the next one, behind what it could go on with", poolOf([]api.Cert{root, ca, leaf}, listsTo(1)), []int{2, 1}},

		// It goes on by one of its own, which comes first, though there is a shorter one.
		{"the less next place, though it is longer", poolOf([]api.Cert{leaf, own(1), ca}, listsTo(1)), []int{0, 1, 2}},
		{"the less next place, which is shorter", poolOf([]api.Cert{leaf, ca, own(1)}, listsTo(1)), []int{0, 1}},
		{"the less next place, with two of its own", poolOf([]api.Cert{leaf, own(1), own(1), ca}, listsTo(1)), []int{0, 1, 2, 3}},
		{"two of its own, and two that end", poolOf([]api.Cert{own(1), ca, leaf, ca}, listsTo(1)), []int{2, 0, 1}},
		{"one of its own between", poolOf([]api.Cert{ca, own(1), leaf}, listsTo(1)), []int{2, 0}},
		{"one of its own alone", poolOf([]api.Cert{leaf, own(1)}, listsTo(1)), nil},
		{"three of its own", poolOf([]api.Cert{own(1), own(1), leaf, own(1)}, listsTo(1)), nil},

		{"issuers alone", poolOf([]api.Cert{ca, caAt(2), own(1)}, listsTo(2)), nil},
		{"leaves alone", poolOf([]api.Cert{leaf, other}, listsTo(1)), nil},
	}
	searchAll(t, all)
	searchQuickly(t, all)
}

// What is amiss of a chain may be right in another one: it is looked for among all of them.
func TestFindsAnotherOne(t *testing.T) {
	leaf, ca := leafAt(2), caAt(1)
	var all []search
	changes := []change{
		{"signature", func(w *world, at int) { w.certs[at].Sig.S[0] ^= 1 }},
		{"time", func(w *world, at int) { w.certs[at].From = rightNow + 1 }},
		{"revoked", func(w *world, at int) { w.certs[at].Serial = []byte{7, 7, 7} }},
		{"odd", func(w *world, at int) { w.certs[at].Odd = true }},
		{"not to revoke", func(w *world, at int) { w.certs[at].Usage = api.UseCert }},
		{"another key", func(w *world, at int) { w.certs[at].Key = pointOf(strangerKey) }},
		{"another name", func(w *world, at int) { w.certs[at].Subject = nameAt(0) }},
		{"not Ca", func(w *world, at int) { w.certs[at].Ca = false }},
		{"permits others", func(w *world, at int) { w.certs[at].Permit = []api.Name{nameAt(3)} }},
		{"excludes all", func(w *world, at int) { w.certs[at].Exclude = []api.Name{nameAt(0)} }},
	}
	for _, one := range changes {
		first := poolOf([]api.Cert{leaf, ca, ca}, listsTo(1))
		all = append(all,
			search{one.what, first.with(func(w *world) { one.do(w, 1) }), []int{0, 2}},
			search{one.what + ", behind", first.with(func(w *world) { one.do(w, 2) }), []int{0, 1}},
			search{one.what + ", both", first.with(func(w *world) { one.do(w, 1); one.do(w, 2) }), nil},
		)
	}
	searchQuickly(t, all)
	searchAll(t, all[:6])
}

// A chain that goes on by one of its own is too long for a Path, and so the other one is found.
func TestFindsByPaths(t *testing.T) {
	leaf, short, free := leafAt(2), caAt(1), caAt(1)
	short.Path, free.Path = 0, 1
	strict := own(1)
	strict.Path = 0
	searchQuickly(t, []search{
		{"too long by one of its own", poolOf([]api.Cert{leaf, own(1), short}, listsTo(1)), []int{0, 2}},
		{"too long, and another one", poolOf([]api.Cert{leaf, own(1), short, free}, listsTo(1)), []int{0, 1, 3}},
		{"one of its own stands lowest", poolOf([]api.Cert{leaf, strict, free}, listsTo(1)), []int{0, 1, 2}},
		{"one of its own stands higher", poolOf([]api.Cert{leaf, own(1), strict, free}, listsTo(1)), []int{0, 1, 3}},
		{"one alone", poolOf([]api.Cert{leaf, short}, listsTo(1)), []int{0, 1}},
	})
}

// Where all keys and names are the same every chain comes into question, each with every list: that
// there are many of them isn't to be felt.
func TestFindsWhereAllAreAlike(t *testing.T) {
	n := nameAt(0)
	w := right(1)
	w.lists = nil
	for i := range 4 {
		c := leafAt(1)
		c.Subject, c.Key, c.Body = n, pointOf(keyAt(0)), []byte{byte(i)}
		c.Ca, c.Usage = true, 1<<16-1
		c.Sig = signedBy(keyAt(0), c.Body)
		w.certs = append(w.certs[:i], c)
		l := listBy(0)
		l.Body = []byte{byte(i), 1}
		l.Sig = signedBy(keyAt(0), l.Body)
		w.lists = append(w.lists, l)
	}
	all := []search{{"none boots", w, nil}}
	for i := range 4 {
		boots := w.with(func(w *world) { w.certs[i].Ca = false })
		all = append(all, search{strconv.Itoa(i) + " boots", boots, []int{i}})
	}
	searchAll(t, all)
	searchQuickly(t, all)
}

func TestFindWithListsInEveryOrder(t *testing.T) {
	var all []search
	pool := right(3)
	pool.certs = append(pool.certs, caAt(1))
	pool.lists = append(pool.lists, listBy(2))
	pool.lists[3].Gone = []api.Gone{{Serial: []byte{1, 1, 1}}}
	ended := pool.with(func(w *world) { w.lists[1].Next = rightNow - 1 })
	revoked := pool.with(func(w *world) { w.lists[3].Gone = []api.Gone{{Serial: w.certs[0].Serial}} })
	for i, order := range orders(4) {
		reorder := func(w *world) { w.lists = inOrder(w.lists, order) }
		what := strconv.Itoa(i)
		all = append(all,
			search{what, pool.with(reorder), []int{0, 1, 2}},
			search{what + ", an ended list", ended.with(reorder), nil},
			search{what + ", revoked", revoked.with(reorder), nil},
		)
	}
	searchQuickly(t, all)
	searchAll(t, all[12:15])
}

func TestFindWithListsForNobody(t *testing.T) {
	var all []search
	for _, n := range []int{1, 2, 3} {
		for i, l := range nobodys(right(n)) {
			for _, order := range orders(n) {
				w, chain := inPool(right(n), order)
				for place := range n + 1 {
					more := w.with(func(w *world) { w.lists = slices.Insert(w.lists, place, l) })
					none := more.with(func(w *world) { w.lists = slices.Delete(w.lists, (place+1)%(n+1), (place+1)%(n+1)+1) })
					what := strconv.Itoa(n) + ", list " + strconv.Itoa(i) + " at " + strconv.Itoa(place)
					all = append(all, search{what, more, chain}, search{what + ", and one less", none, nil})
				}
			}
		}
	}
	searchQuickly(t, all)
}
