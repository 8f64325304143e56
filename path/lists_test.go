package path

import (
	"math"
	"math/bits"
	"slices"
	"strconv"
	"testing"

	"escutcheon/api"
)

// P19.1: the fourth point, and which list speaks for a certificate

func listed(what string, do func(w *world, l *api.Crl, at int)) change {
	return change{what, func(w *world, at int) { do(w, &w.lists[at], at) }}
}

func listDuring(what string, this, next int64) change {
	return listed(what, func(_ *world, l *api.Crl, _ int) { l.This, l.Next = this, next })
}

func listIssuedBy(what string, issuer func(w *world, at int) api.Name) change {
	return listed(what, func(w *world, l *api.Crl, at int) { l.Issuer = issuer(w, at) })
}

func TestListsThatDontSpeak(t *testing.T) {
	tryEverywhere(t, tryQuickly, []change{
		{"there is none", func(w *world, at int) { w.lists = slices.Delete(w.lists, at, at+1) }},
		{"there are none for those ahead either", func(w *world, at int) { w.lists = w.lists[at+1:] }},
		listed("the zero one", func(_ *world, l *api.Crl, _ int) { *l = api.Crl{} }),

		listIssuedBy("by nobody", func(*world, int) api.Name { return nil }),
		listIssuedBy("by whom it should speak for", func(w *world, at int) api.Name { return w.certs[at].Subject }),
		listIssuedBy("by another name", func(*world, int) api.Name { return api.Name{org("another org")} }),
		listIssuedBy("by one part less", func(w *world, at int) api.Name { return nameAt(len(w.certs) - at - 1)[:len(w.certs)-at-1] }),
		listIssuedBy("by one part more", func(w *world, at int) api.Name { return append(nameAt(len(w.certs)-at-1), unit("b")) }),
		listIssuedBy("by another kind of part", func(w *world, at int) api.Name {
			n := nameAt(len(w.certs) - at - 1)
			n[len(n)-1].Kind = api.KindCommon
			return n
		}),

		listDuring("too early by one", rightNow+1, rightNow+around),
		listDuring("too late by one", rightNow-around, rightNow-1),
		listDuring("long ahead", math.MaxInt64, math.MaxInt64),
		listDuring("long behind", math.MinInt64, math.MinInt64),
		listDuring("never", rightNow+1, rightNow-1),
		listDuring("never, from now on", rightNow, rightNow-1),
		listDuring("never, until now", rightNow+1, rightNow),
	}, api.ErrRevoked)
}

func TestListsWhoseSignaturesDontHold(t *testing.T) {
	tryEverywhere(t, tryAll, []change{
		listed("by nobody's key", func(_ *world, l *api.Crl, _ int) { l.Sig = signedBy(strangerKey, l.Body) }),
		listed("by whom it speaks for", func(w *world, l *api.Crl, at int) { l.Sig = signedBy(keyAt(len(w.certs)-at), l.Body) }),
		listed("that of the certificate", func(w *world, l *api.Crl, at int) { l.Sig = w.certs[at].Sig }),
		listed("none", func(_ *world, l *api.Crl, _ int) { l.Sig = api.Sig{} }),
		listed("R of N", func(_ *world, l *api.Crl, _ int) { l.Sig.R = overN(0) }),
		listed("S of 0", func(_ *world, l *api.Crl, _ int) { l.Sig.S = api.U384{} }),
		listed("a bit of S", func(_ *world, l *api.Crl, _ int) { l.Sig.S[0] ^= 1 }),
		listed("another body", func(_ *world, l *api.Crl, _ int) { l.Body = append(slices.Clone(l.Body), 0) }),
		listed("no body", func(_ *world, l *api.Crl, _ int) { l.Body = nil }),
	}, api.ErrRevoked)
}

func TestListsThatSpeak(t *testing.T) {
	tryEverywhere(t, tryQuickly, []change{
		listDuring("at This", rightNow, rightNow+around),
		listDuring("at Next", rightNow-around, rightNow),
		listDuring("at both", rightNow, rightNow),
		listDuring("always", math.MinInt64, math.MaxInt64),
		listed("nobody is revoked", func(_ *world, l *api.Crl, _ int) { l.Gone = nil }),
		listed("many others are", func(w *world, l *api.Crl, at int) {
			serial := w.certs[at].Serial
			l.Gone = []api.Gone{{}, {Serial: serial[:1]}, {Serial: serial[1:]}, {Serial: append(slices.Clone(serial), 0)}, {Serial: append([]byte{0}, serial...)}}
		}),
		listed("of no body", func(w *world, l *api.Crl, at int) {
			l.Body = nil
			l.Sig = signedBy(keyAt(len(w.certs)-at-1), nil)
		}),
		{"twice", func(w *world, at int) { w.lists = append(w.lists, w.lists[at]) }},
	}, 0)
}

func gone(what string, serials func(c api.Cert) [][]byte) change {
	return listed(what, func(w *world, l *api.Crl, at int) {
		l.Gone = nil
		for _, serial := range serials(w.certs[at]) {
			l.Gone = append(l.Gone, api.Gone{Serial: serial, At: 1})
		}
	})
}

func TestRevoked(t *testing.T) {
	tryEverywhere(t, tryQuickly, []change{
		gone("alone", func(c api.Cert) [][]byte { return [][]byte{c.Serial} }),
		gone("the first one", func(c api.Cert) [][]byte { return [][]byte{c.Serial, {9}, {8}} }),
		gone("in the middle", func(c api.Cert) [][]byte { return [][]byte{{9}, c.Serial, {8}} }),
		gone("the last one", func(c api.Cert) [][]byte { return [][]byte{{9}, {8}, c.Serial} }),
		gone("twice", func(c api.Cert) [][]byte { return [][]byte{c.Serial, c.Serial} }),
		gone("of a hundred", func(c api.Cert) [][]byte {
			return append(slices.Repeat([][]byte{{3, 3}}, 99), c.Serial)
		}),
		// Since when isn't asked.
		listed("long ago", func(w *world, l *api.Crl, at int) {
			l.Gone = []api.Gone{{Serial: w.certs[at].Serial, At: math.MinInt64}}
		}),
		listed("only later", func(w *world, l *api.Crl, at int) {
			l.Gone = []api.Gone{{Serial: w.certs[at].Serial, At: math.MaxInt64}}
		}),
		// It has no number, and whoever has none is revoked.
		{"without a number", func(w *world, at int) {
			w.certs[at].Serial = nil
			w.lists[at].Gone = []api.Gone{{Serial: []byte{}, At: 1}}
		}},
	}, api.ErrRevoked)
}

// Two lists speak for one certificate, and one of them has it: whichever comes first.
func TestTwoListsThatSpeak(t *testing.T) {
	second := func(w *world, at int, has bool) {
		l := listBy(len(w.certs) - at - 1)
		l.Body = []byte("a second list")
		l.Sig = signedBy(keyAt(len(w.certs)-at-1), l.Body)
		if has {
			l.Gone = append(l.Gone, api.Gone{Serial: w.certs[at].Serial, At: 2})
		}
		w.lists = append(w.lists, l)
	}
	first := func(w *world, at int) {
		w.lists[at].Gone = append(slices.Clone(w.lists[at].Gone), api.Gone{Serial: w.certs[at].Serial, At: 2})
	}
	tryEverywhere(t, tryQuickly, []change{
		{"the last one has it", func(w *world, at int) { second(w, at, true) }},
		{"the first one has it", func(w *world, at int) { first(w, at); second(w, at, false) }},
		{"both have it", func(w *world, at int) { first(w, at); second(w, at, true) }},
	}, api.ErrRevoked)
	tryEverywhere(t, tryQuickly, []change{
		{"none has it", func(w *world, at int) { second(w, at, false) }},
		// One that doesn't speak, speaks neither for it nor against it.
		{"one that is too late has it", func(w *world, at int) {
			second(w, at, true)
			w.lists[len(w.lists)-1].Next = rightNow - 1
		}},
		{"one that is too early has it", func(w *world, at int) {
			second(w, at, true)
			w.lists[len(w.lists)-1].This = rightNow + 1
		}},
		{"one by another name has it", func(w *world, at int) {
			second(w, at, true)
			w.lists[len(w.lists)-1].Issuer = api.Name{org("another org")}
		}},
		{"one by another key has it", func(w *world, at int) {
			second(w, at, true)
			l := &w.lists[len(w.lists)-1]
			l.Sig = signedBy(strangerKey, l.Body)
		}},
	}, 0)
}

// What one issuer revokes is nothing to the certificates of another one, though they have that number.
func TestSerialsOfOtherIssuers(t *testing.T) {
	w := right(4)
	for at := range w.certs {
		w.certs[at].Serial = []byte{1}
	}
	var all []trial
	for at := range w.certs {
		own := w.with(func(w *world) { w.lists[at].Gone = []api.Gone{{Serial: []byte{1}, At: 1}} })
		all = append(all, trial{strconv.Itoa(at), own, amissAt(at, api.ErrRevoked)})
	}
	tryAll(t, append(all, trial{"none", w, nil}))
}

// Usage and UseCrl of who stands above; the anchor has none, and needn't.
func TestWhoMayRevoke(t *testing.T) {
	var all []trial
	for at := 1; at < 4; at++ {
		for _, usage := range []int{api.UseCert | api.UseCrl, api.UseCert, api.UseCert | 1<<4 | 1<<7, 1<<16 - 1, 1<<16 - 1 - api.UseCrl, math.MaxInt, math.MaxInt - api.UseCrl} {
			w := right(4).with(func(w *world) { w.certs[at].Usage = usage })
			want := error(nil)
			if usage&api.UseCrl == 0 {
				want = amissAt(at-1, api.ErrRevoked)
			}
			all = append(all, trial{strconv.Itoa(at) + " with " + strconv.Itoa(usage), w, want})
		}
	}
	tryQuickly(t, all)
}

// Of a Usage that it hasn't, or that lacks UseCert, it is told at the certificate itself, ahead of those
// below it; so what it may revoke is asked of the judge.
func TestWhoMayRevokeByUsageAlone(t *testing.T) {
	w := right(2)
	j := judge{certs: w.certs, anchor: w.anchor, now: w.now, lists: w.lists}
	usages := []int{0, -1, -2, api.UseCrl - 1<<10, math.MinInt, math.MinInt + api.UseCrl, api.UseSign, api.UseCert, -1 - api.UseCrl}
	for i := range bits.UintSize - 1 {
		usages = append(usages, 1<<i, api.UseCrl|1<<i, math.MaxInt-1<<i)
	}
	for _, usage := range usages {
		j.certs[1].Usage = usage
		want := usage >= 0 && usage&64 != 0
		if got := j.above([]int{0, 1}, 0).mayRevoke; got != want {
			t.Errorf("with %d: %v", usage, got)
		}
		if !j.above([]int{0, 1}, 1).mayRevoke {
			t.Error("the anchor may")
		}
	}
}

// P19.4

// nobodys are lists that speak for nobody in a right chain, and have every certificate.
func nobodys(w world) []api.Crl {
	var all []api.Gone
	for _, c := range w.certs {
		all = append(all, api.Gone{Serial: c.Serial, At: 1})
	}
	stranger, late, early, unsigned, leafs := listBy(0), listBy(0), listBy(0), listBy(1), listBy(len(w.certs))
	stranger.Issuer = api.Name{org("another org")}
	late.Next = rightNow - 1
	early.This = rightNow + 1
	unsigned.Sig.S[0] ^= 1
	lists := []api.Crl{{}, stranger, late, early, unsigned, leafs}
	for i := range lists {
		lists[i].Gone = all
	}
	return lists
}

func TestListsForNobody(t *testing.T) {
	var all []trial
	for _, n := range []int{1, 2, 3} {
		w := right(n)
		revoked := w.with(func(w *world) { w.lists[0].Gone = []api.Gone{{Serial: w.certs[0].Serial}} })
		alone := w.with(func(w *world) { w.lists = w.lists[1:] })
		for i, l := range nobodys(w) {
			for _, place := range []int{0, n} {
				what := strconv.Itoa(n) + ", list " + strconv.Itoa(i) + " at " + strconv.Itoa(place)
				more := func(w *world) { w.lists = slices.Insert(w.lists, min(place, len(w.lists)), l) }
				all = append(all,
					trial{what, w.with(more), nil},
					trial{what + ", revoked", revoked.with(more), amissAt(0, api.ErrRevoked)},
					trial{what + ", no list", alone.with(more), amissAt(0, api.ErrRevoked)},
				)
			}
		}
	}
	tryQuickly(t, all)
}

func TestListsInEveryOrder(t *testing.T) {
	w := right(4)
	revoked := w.with(func(w *world) { w.lists[0].Gone = []api.Gone{{Serial: w.certs[0].Serial}} })
	// Two speak for the first one, and one for the second one, which has ended.
	twice := right(3)
	second := listBy(2)
	second.Gone = []api.Gone{{Serial: twice.certs[0].Serial}}
	twice.lists = append(twice.lists, second)
	ended := w.with(func(w *world) { w.lists[1].Next = rightNow - 1 })
	var all []trial
	for i, order := range orders(4) {
		reorder := func(w *world) { w.lists = inOrder(w.lists, order) }
		what := strconv.Itoa(i)
		all = append(all,
			trial{what, w.with(reorder), nil},
			trial{what + ", revoked", revoked.with(reorder), amissAt(0, api.ErrRevoked)},
			trial{what + ", two lists", twice.with(reorder), amissAt(0, api.ErrRevoked)},
			trial{what + ", an ended list", ended.with(reorder), amissAt(1, api.ErrRevoked)},
		)
	}
	tryQuickly(t, all)
}
