package path

import (
	"errors"
	"math"
	"slices"
	"strconv"
	"testing"

	"escutcheon/api"
)

// P19.1: how many there are, and the chain, its signatures and its times

func TestCheckWrittenOut(t *testing.T) {
	// The chapter's.
	if err := Check(nil, api.Anchor{}, 0, nil); err != api.ErrArg {
		t.Error(err)
	}
	if err := Check([]api.Cert{}, right(1).anchor, rightNow, right(1).lists); err != api.ErrArg {
		t.Error(err)
	}
}

func TestRightChains(t *testing.T) {
	var all []trial
	for n := 1; n <= 4; n++ {
		all = append(all, trial{strconv.Itoa(n), right(n), nil})
	}
	tryAll(t, all)
}

func TestHowManyCertificatesAndLists(t *testing.T) {
	var all []trial
	for certs := range 8 {
		for lists := range 8 {
			w := world{anchor: right(1).anchor, now: rightNow}
			if certs > 0 && certs <= 4 {
				w = right(certs)
			}
			if certs > 4 {
				w.certs = slices.Repeat(right(1).certs, certs)
			}
			// Only the last ones may be missing: those speak for the last certificates.
			slices.Reverse(w.lists)
			for len(w.lists) < lists {
				w.lists = append(w.lists, listBy(9))
			}
			w.lists = w.lists[:lists]
			want := error(nil)
			switch {
			case certs == 0:
				want = api.ErrArg
			case certs > 4 || lists > 4:
				want = api.ErrLong
			case lists < certs:
				want = amissAt(certs-1-lists, api.ErrRevoked)
			}
			all = append(all, trial{strconv.Itoa(certs) + " and " + strconv.Itoa(lists), w, want})
		}
	}
	many := right(4)
	many.certs = slices.Repeat(many.certs, 1000)
	all = append(all, trial{"4000", many, api.ErrLong})
	tryAll(t, all)
}

// change is something that makes a certificate of a right chain amiss, or leaves it right.
type change struct {
	what string
	do   func(w *world, at int)
}

// tryEverywhere lays each change at each place of a chain of one, and of a chain of three: at the first
// one, in the middle, and at the last one. A code of 0 is none.
func tryEverywhere(t *testing.T, try func(*testing.T, []trial), changes []change, code api.Code) {
	t.Helper()
	var all []trial
	for _, n := range []int{1, 3} {
		for at := range n {
			for _, one := range changes {
				w := right(n).with(func(w *world) { one.do(w, at) })
				want := error(nil)
				if code != 0 {
					want = amissAt(at, code)
				}
				all = append(all, trial{strconv.Itoa(at) + " of " + strconv.Itoa(n) + ", " + one.what, w, want})
			}
		}
	}
	try(t, all)
}

// issuedAs tells another issuer.
func issuedAs(what string, other func(w *world, at int) api.Name) change {
	return change{what, func(w *world, at int) { w.certs[at].Issuer = other(w, at) }}
}

func TestOtherIssuers(t *testing.T) {
	tryEverywhere(t, tryAll, []change{
		issuedAs("none", func(*world, int) api.Name { return nil }),
		issuedAs("itself", func(w *world, at int) api.Name { return w.certs[at].Subject }),
		issuedAs("one that is nobody's", func(*world, int) api.Name { return api.Name{org("another org")} }),
		issuedAs("one part less", func(w *world, at int) api.Name { n := w.certs[at].Issuer; return n[:len(n)-1] }),
		issuedAs("one part more", func(w *world, at int) api.Name { return append(slices.Clone(w.certs[at].Issuer), unit("b")) }),
		issuedAs("another kind", func(w *world, at int) api.Name {
			n := slices.Clone(w.certs[at].Issuer)
			n[len(n)-1].Kind = api.KindCommon
			return n
		}),
		issuedAs("another text", func(w *world, at int) api.Name {
			n := slices.Clone(w.certs[at].Issuer)
			n[0].Text = "an oRg"
			return n
		}),
		issuedAs("a part twice", func(w *world, at int) api.Name {
			return append(slices.Clone(w.certs[at].Issuer), w.certs[at].Issuer...)
		}),
	}, api.ErrChain)
}

// Somebody above has that name, but doesn't stand next above.
func TestIssuersThatStandFurtherUp(t *testing.T) {
	var all []trial
	for at := range 4 {
		for other := range 5 {
			w := right(4)
			rank := 4 - at
			want := amissAt(at, api.ErrChain)
			if other == rank-1 {
				want = nil
			}
			w.certs[at].Issuer = nameAt(other)
			all = append(all, trial{strconv.Itoa(at) + " by rank " + strconv.Itoa(other), w, want})
		}
	}
	tryQuickly(t, all)
}

// The name of who stands above is another one, so that nobody issued what stands below.
func TestOthersAbove(t *testing.T) {
	all := []trial{
		{"another anchor", right(3).with(func(w *world) { w.anchor.Name = api.Name{org("another org")} }), amissAt(2, api.ErrChain)},
		{"an anchor without a name", right(3).with(func(w *world) { w.anchor.Name = nil }), amissAt(2, api.ErrChain)},
	}
	for at := 1; at < 3; at++ {
		w := right(3).with(func(w *world) { w.certs[at].Subject = append(slices.Clone(w.certs[at].Subject), unit("b")) })
		all = append(all, trial{"another one at " + strconv.Itoa(at), w, amissAt(at-1, api.ErrChain)})
	}
	tryAll(t, all)
}

// A name may have no parts, and may be the same all over.
func TestNamesWithoutParts(t *testing.T) {
	nobody := func(w *world) {
		w.anchor.Name = nil
		for at := range w.certs {
			w.certs[at].Issuer, w.certs[at].Subject, w.lists[at].Issuer = nil, api.Name{}, api.Name{}
		}
	}
	same := func(w *world) {
		n := api.Name{common("all")}
		w.anchor.Name = n
		for at := range w.certs {
			w.certs[at].Issuer, w.certs[at].Subject, w.lists[at].Issuer = n, n, n
		}
	}
	tryAll(t, []trial{
		{"no parts, one", right(1).with(nobody), nil},
		{"no parts, three", right(3).with(nobody), nil},
		{"all the same, one", right(1).with(same), nil},
		{"all the same, three", right(3).with(same), nil},
	})
}

func signed(what string, sign func(w *world, at int) api.Sig) change {
	return change{what, func(w *world, at int) { w.certs[at].Sig = sign(w, at) }}
}

// sigOf changes numbers of a signature that holds.
func sigOf(what string, with func(s *api.Sig)) change {
	return change{what, func(w *world, at int) { with(&w.certs[at].Sig) }}
}

func TestSignaturesThatDontHold(t *testing.T) {
	tryEverywhere(t, tryAll, []change{
		signed("by nobody's key", func(w *world, at int) api.Sig { return signedBy(strangerKey, w.certs[at].Body) }),
		signed("by its own key", func(w *world, at int) api.Sig { return signedBy(keyAt(len(w.certs)-at), w.certs[at].Body) }),
		signed("of another body", func(w *world, at int) api.Sig {
			return signedBy(keyAt(len(w.certs)-at-1), append(slices.Clone(w.certs[at].Body), 0))
		}),
		signed("of no body", func(w *world, at int) api.Sig { return signedBy(keyAt(len(w.certs)-at-1), nil) }),
		signed("that of the list", func(w *world, at int) api.Sig { return w.lists[at].Sig }),
		sigOf("none", func(s *api.Sig) { *s = api.Sig{} }),
		sigOf("R of 0", func(s *api.Sig) { s.R = api.U384{} }),
		sigOf("S of 0", func(s *api.Sig) { s.S = api.U384{} }),
		sigOf("R of N", func(s *api.Sig) { s.R = overN(0) }),
		sigOf("S of N", func(s *api.Sig) { s.S = overN(0) }),
		sigOf("S of more", func(s *api.Sig) { s.S = overN(5) }),
		sigOf("R and S of all bits", func(s *api.Sig) {
			for i := range s.R {
				s.R[i], s.S[i] = math.MaxUint64, math.MaxUint64
			}
		}),
		sigOf("the other way round", func(s *api.Sig) { s.R, s.S = s.S, s.R }),
		sigOf("a bit of R", func(s *api.Sig) { s.R[0] ^= 1 }),
		sigOf("a bit of S", func(s *api.Sig) { s.S[5] ^= 1 << 20 }),
		{"another body", func(w *world, at int) { w.certs[at].Body = append(slices.Clone(w.certs[at].Body), 0) }},
		{"no body", func(w *world, at int) { w.certs[at].Body = nil }},
		{"a bit of the body", func(w *world, at int) {
			w.certs[at].Body = slices.Clone(w.certs[at].Body)
			w.certs[at].Body[3] ^= 16
		}},
	}, api.ErrSign)
}

// keyAbove is a change of the key of who stands above.
func keyAbove(what string, key api.Point) change {
	return change{what, func(w *world, at int) {
		if at+1 < len(w.certs) {
			w.certs[at+1].Key = key
		} else {
			w.anchor.Key = key
		}
	}}
}

func TestKeysThatDidntSign(t *testing.T) {
	off := pointOf(keyAt(1))
	off.Y[2] ^= 1
	marked := pointOf(keyAt(1))
	marked.None = true
	tryEverywhere(t, tryAll, []change{
		keyAbove("nobody's", pointOf(strangerKey)),
		keyAbove("at infinity", api.Point{None: true}),
		keyAbove("zero", api.Point{}),
		keyAbove("off the curve", off),
		keyAbove("at infinity, with coordinates", marked),
	}, api.ErrSign)
}

// Another signature that holds is as good as the first one.
func TestOtherSignaturesThatHold(t *testing.T) {
	tryEverywhere(t, tryAll, []change{
		{"by another key, which stands above", func(w *world, at int) { w.signAgain(at, strangerKey) }},
		{"N less S", func(w *world, at int) {
			s := &w.certs[at].Sig
			n := bigOf(overN(0))
			s.S = numberOf(n.Sub(n, bigOf(s.S)))
		}},
		{"of no body", func(w *world, at int) {
			w.certs[at].Body = nil
			w.certs[at].Sig = signedBy(keyAt(len(w.certs)-at-1), nil)
		}},
		{"of a long body", func(w *world, at int) {
			w.certs[at].Body = make([]byte, 100000)
			w.certs[at].Sig = signedBy(keyAt(len(w.certs)-at-1), w.certs[at].Body)
		}},
	}, 0)
}

func during(what string, from, to int64) change {
	return change{what, func(w *world, at int) { w.certs[at].From, w.certs[at].To = from, to }}
}

func TestNotNow(t *testing.T) {
	tryEverywhere(t, tryQuickly, []change{
		during("one ahead of From", rightNow+1, rightNow+around),
		during("one behind To", rightNow-around, rightNow-1),
		during("long ahead", math.MaxInt64, math.MaxInt64),
		during("long behind", math.MinInt64, math.MinInt64),
		during("never", rightNow+1, rightNow-1),
		during("never, from now on", rightNow, rightNow-1),
		during("never, until now", rightNow+1, rightNow),
		during("zero", 0, 0),
	}, api.ErrTime)
}

func TestNow(t *testing.T) {
	tryEverywhere(t, tryQuickly, []change{
		during("at From", rightNow, rightNow+around),
		during("at To", rightNow-around, rightNow),
		during("at both", rightNow, rightNow),
		during("always", math.MinInt64, math.MaxInt64),
	}, 0)
}

// The time that is asked for is another one.
func TestOtherTimes(t *testing.T) {
	var all []trial
	for _, now := range []int64{rightNow - around - 1, rightNow - around, rightNow, rightNow + around, rightNow + around + 1, 0, -1, math.MinInt64, math.MaxInt64} {
		w := right(3)
		w.now = now
		want := amissAt(2, api.ErrTime)
		if now >= rightNow-around && now <= rightNow+around {
			want = nil
		}
		all = append(all, trial{strconv.FormatInt(now, 10), w, want})
	}
	early := right(3)
	early.now = math.MinInt64
	late := right(3)
	late.now = math.MaxInt64
	for at := range 3 {
		early.certs[at].From, early.lists[at].This = math.MinInt64, math.MinInt64
		late.certs[at].To, late.lists[at].Next = math.MaxInt64, math.MaxInt64
	}
	tryAll(t, append(all, trial{"the first second", early, nil}, trial{"the last one", late, nil}))
}

// onePerPoint breaks each of the chapter's seven points, and no other one; the last two are the same at
// each place: which of them it is hangs on that.
func onePerPoint() []change {
	return []change{
		{"issuer", func(w *world, at int) { w.certs[at].Issuer = api.Name{common("b")} }},
		{"signature", func(w *world, at int) { w.certs[at].Sig.R = api.U384{1} }},
		{"time", func(w *world, at int) { w.certs[at].To = rightNow - 1 }},
		{"list", func(w *world, at int) { w.lists[at].Gone = []api.Gone{{Serial: w.certs[at].Serial}} }},
		{"odd", func(w *world, at int) { w.certs[at].Odd = true }},
		{"use", func(w *world, at int) { w.certs[at].Ca = at == 0 }},
	}
}

// From the last certificate to the first one, and at each in the order of the points.
func TestTwoPointsAtOnce(t *testing.T) {
	var all []trial
	changes := onePerPoint()
	for at := range 3 {
		for other := range at + 1 {
			for i, one := range changes {
				for k, two := range changes {
					w := right(3).with(func(w *world) {
						one.do(w, at)
						two.do(w, other)
					})
					point := i
					if other == at {
						point = min(i, k)
					}
					what := one.what + " at " + strconv.Itoa(at) + ", " + two.what + " at " + strconv.Itoa(other)
					all = append(all, trial{what, w, amissAt(at, pointCodes()[point])})
				}
			}
		}
	}
	tryQuickly(t, all)
}

func TestAllPointsAtOnce(t *testing.T) {
	w := right(4)
	var all []trial
	changes := onePerPoint()
	for i := range changes {
		for from := range 4 {
			own := w.with(func(w *world) {
				for _, one := range changes[i:] {
					for at := range from + 1 {
						one.do(w, at)
					}
				}
			})
			all = append(all, trial{changes[i].what + " and on, up to " + strconv.Itoa(from), own, amissAt(from, pointCodes()[i])})
		}
	}
	tryAll(t, all)
}

// A Spot is found by errors.As, and its code by errors.Is.
func TestSpots(t *testing.T) {
	t.Parallel()
	for at := range 3 {
		for i, one := range onePerPoint()[:3] {
			w := right(3).with(func(w *world) { one.do(w, at) })
			err := Check(w.certs, w.anchor, w.now, w.lists)
			var s *api.Spot
			if !errors.As(err, &s) || s.At != at || !errors.Is(err, pointCodes()[i]) {
				t.Errorf("%s at %d: %v", one.what, at, err)
			}
			var code api.Code
			if !errors.As(err, &code) || code != pointCodes()[i] {
				t.Errorf("%s at %d: %v", one.what, at, err)
			}
		}
	}
}
