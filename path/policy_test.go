package path

import (
	"math"
	"slices"
	"strconv"
	"testing"

	"escutcheon/api"
)

// P19.1: the last three points

func TestOdd(t *testing.T) {
	tryEverywhere(t, tryAll, []change{{"odd", func(w *world, at int) { w.certs[at].Odd = true }}}, api.ErrPolicy)
}

// naming is how a certificate permits or excludes names, and whether it allows a given one.
type naming struct {
	what            string
	permit, exclude []api.Name
	right           bool
}

// namings are those for a certificate with that name.
func namings(n api.Name) []naming {
	whole, before := n, n[:len(n)-1]
	more := append(slices.Clone(n), unit("b"))
	other := api.Name{org("another org")}
	otherEnd := append(slices.Clone(before), unit("b"))
	otherKind := slices.Clone(n)
	otherKind[len(n)-1].Kind = api.KindCommon
	return []naming{
		{"nothing", nil, nil, true},
		{"empty lists", []api.Name{}, []api.Name{}, true},
		{"permits itself", []api.Name{whole}, nil, true},
		{"permits its beginning", []api.Name{before}, nil, true},
		{"permits its first part", []api.Name{n[:1]}, nil, true},
		{"permits no parts", []api.Name{nil}, nil, true},
		{"permits more", []api.Name{more}, nil, false},
		{"permits another", []api.Name{other}, nil, false},
		{"permits another end", []api.Name{otherEnd}, nil, false},
		{"permits another kind", []api.Name{otherKind}, nil, false},
		{"permits its end", []api.Name{n[1:]}, nil, false},
		{"permits it as the last one of three", []api.Name{other, more, whole}, nil, true},
		{"permits it as the first one of three", []api.Name{before, more, other}, nil, true},
		{"permits three others", []api.Name{other, more, otherEnd}, nil, false},
		{"permits two alike", []api.Name{other, other}, nil, false},

		{"excludes itself", nil, []api.Name{whole}, false},
		{"excludes its beginning", nil, []api.Name{before}, false},
		{"excludes its first part", nil, []api.Name{n[:1]}, false},
		{"excludes no parts", nil, []api.Name{{}}, false},
		{"excludes more", nil, []api.Name{more}, true},
		{"excludes another", nil, []api.Name{other}, true},
		{"excludes another end", nil, []api.Name{otherEnd}, true},
		{"excludes another kind", nil, []api.Name{otherKind}, true},
		{"excludes its end", nil, []api.Name{n[1:]}, true},
		{"excludes it as the last one of three", nil, []api.Name{other, more, before}, false},
		{"excludes it as the first one of three", nil, []api.Name{whole, more, other}, false},
		{"excludes three others", nil, []api.Name{other, more, otherEnd}, true},

		{"permits and excludes it", []api.Name{before}, []api.Name{whole}, false},
		{"permits and excludes the same", []api.Name{whole}, []api.Name{whole}, false},
		{"permits it and excludes others", []api.Name{before}, []api.Name{other, more}, true},
		{"permits and excludes others", []api.Name{other}, []api.Name{other}, false},
	}
}

// apart gives a certificate a name that isn't within those above it, so that it alone is asked for there.
// What stands below it goes along.
func apart(w *world, at int) {
	w.certs[at].Subject = slices.Concat(api.Name{org("apart")}, nameAt(2)[1:])
	if at > 0 {
		w.certs[at-1].Issuer, w.lists[at-1].Issuer = w.certs[at].Subject, w.certs[at].Subject
	}
}

// The one at each place, by each that stands above it, at every distance.
func TestNamesThatAreAllowed(t *testing.T) {
	var all []trial
	for at := range 3 {
		for above := at + 1; above < 4; above++ {
			w := right(4).with(func(w *world) { apart(w, at) })
			for _, one := range namings(w.certs[at].Subject) {
				own := w.with(func(w *world) {
					w.certs[above].Permit, w.certs[above].Exclude = one.permit, one.exclude
				})
				// Others below may be refused, too: that is told at a place of theirs.
				want := wantCheck(own)
				if !one.right && at == above-1 && !sameError(want, amissAt(at, api.ErrPolicy)) {
					t.Errorf("%s: the chapter says %v", one.what, want)
				}
				what := strconv.Itoa(at) + " by " + strconv.Itoa(above) + ": " + one.what
				all = append(all, trial{what, own, want})
			}
		}
	}
	tryQuickly(t, all)
}

// Only the first one is called something else, so that it alone may be refused.
func TestNamesOfTheFirstOne(t *testing.T) {
	var all []trial
	for above := 1; above < 3; above++ {
		w := right(3).with(func(w *world) { apart(w, 0) })
		for _, one := range namings(w.certs[0].Subject) {
			own := w.with(func(w *world) {
				c := &w.certs[above]
				c.Permit, c.Exclude = one.permit, one.exclude
				// Those between are permitted in any case, and never excluded.
				if len(c.Permit) > 0 {
					c.Permit = append(slices.Clone(c.Permit), nameAt(1))
				}
			})
			if slices.ContainsFunc(one.exclude, func(n api.Name) bool { return len(n) == 0 }) && above > 1 {
				continue
			}
			want := error(nil)
			if !one.right {
				want = amissAt(0, api.ErrPolicy)
			}
			all = append(all, trial{"by " + strconv.Itoa(above) + ": " + one.what, own, want})
		}
	}
	tryQuickly(t, all)
}

// Several that stand above must all allow it; what one permits makes up for nothing that another one
// doesn't, nor does its own.
func TestNamesBySeveral(t *testing.T) {
	first, other := nameAt(4), api.Name{org("another org")}
	yes, no := []api.Name{first[:2]}, []api.Name{other}
	both := []api.Name{other, first[:1]}
	type three [3][]api.Name
	var all []trial
	try := func(what string, permit, exclude three, want error) {
		w := right(4)
		for i := range permit {
			w.certs[i+1].Permit, w.certs[i+1].Exclude = permit[i], exclude[i]
		}
		all = append(all, trial{what, w, want})
	}
	only := []api.Name{first}
	try("all permit it", three{yes, both, yes}, three{}, nil)
	try("all permit it, none excludes it", three{yes, both, yes}, three{no, no, no}, nil)
	try("two permit it", three{yes, nil, both}, three{}, nil)
	try("the near one doesn't", three{no, yes, yes}, three{}, amissAt(0, api.ErrPolicy))
	try("the middle one doesn't", three{yes, no, yes}, three{}, amissAt(1, api.ErrPolicy))
	try("the far one doesn't", three{yes, yes, no}, three{}, amissAt(2, api.ErrPolicy))
	try("only the near one asks", three{only, nil, nil}, three{}, nil)
	try("the near one excludes it", three{yes, yes, yes}, three{only, nil, nil}, amissAt(0, api.ErrPolicy))
	try("the middle one excludes it", three{yes, yes, yes}, three{nil, only, nil}, amissAt(0, api.ErrPolicy))
	try("the far one excludes it", three{yes, yes, yes}, three{nil, nil, only}, amissAt(0, api.ErrPolicy))
	try("the far one excludes one between", three{}, three{nil, nil, {nameAt(3)}}, amissAt(1, api.ErrPolicy))
	try("the far one excludes the next one", three{}, three{nil, nil, {nameAt(2)}}, amissAt(2, api.ErrPolicy))
	try("each excludes itself", three{}, three{{nameAt(3)}, {nameAt(2)}, {nameAt(1)}}, amissAt(2, api.ErrPolicy))
	tryQuickly(t, all)
}

// What a certificate permits or excludes is nothing to itself, nor to those above it.
func TestNamesOfThemselvesAndAbove(t *testing.T) {
	other := api.Name{org("another org")}
	tryQuickly(t, []trial{
		{"the first one permits another", right(2).with(func(w *world) { w.certs[0].Permit = []api.Name{other} }), nil},
		{"the first one excludes all", right(2).with(func(w *world) { w.certs[0].Exclude = []api.Name{{}} }), nil},
		{"one alone permits another", right(1).with(func(w *world) { w.certs[0].Permit = []api.Name{other} }), nil},
		{"one alone excludes itself", right(1).with(func(w *world) { w.certs[0].Exclude = []api.Name{nameAt(1)} }), nil},
		{"one above permits what is below", right(2).with(func(w *world) { w.certs[1].Permit = []api.Name{nameAt(2)} }), nil},
		{"one above excludes itself alone", right(2).with(func(w *world) {
			apart(w, 0)
			w.certs[1].Exclude = []api.Name{nameAt(1)}
		}), nil},
	})
}

func usage(what string, usage int) change {
	return change{what, func(w *world, at int) { w.certs[at].Usage = usage }}
}

// tryAt lays changes at one place of a chain of n.
func tryAt(t *testing.T, n, at int, changes []change, code api.Code) {
	t.Helper()
	var all []trial
	for _, one := range changes {
		w := right(n).with(func(w *world) { one.do(w, at) })
		want := error(nil)
		if code != 0 {
			want = amissAt(at, code)
		}
		all = append(all, trial{strconv.Itoa(at) + " of " + strconv.Itoa(n) + ", " + one.what, w, want})
	}
	tryQuickly(t, all)
}

func TestWhoMayNotIssue(t *testing.T) {
	for at := 1; at < 4; at++ {
		tryAt(t, 4, at, []change{
			{"isn't Ca", func(w *world, at int) { w.certs[at].Ca = false }},
			usage("no Usage", -1),
			usage("below 0", -2),
			usage("far below 0", math.MinInt+api.UseCert),
			usage("nothing", 0),
			usage("lists alone", api.UseCrl),
			usage("all but certificates", 1<<16-1-api.UseCert),
			usage("the bits beside", api.UseCrl|1<<4),
			{"a leaf", func(w *world, at int) {
				w.certs[at].Ca, w.certs[at].Usage, w.certs[at].Uses = false, api.UseSign, bootUses()
			}},
		}, api.ErrPolicy)
	}
}

func TestWhoMayIssue(t *testing.T) {
	for at := 1; at < 3; at++ {
		tryAt(t, 3, at, []change{
			usage("all", 1<<16-1),
			usage("more than all", math.MaxInt),
			usage("signatures, too", api.UseSign|api.UseCert|api.UseCrl),
			{"boots, too", func(w *world, at int) { w.certs[at].Uses = bootUses() }},
			{"other uses", func(w *world, at int) { w.certs[at].Uses = [][]uint64{{1, 2, 3}} }},
		}, 0)
	}
}

// Path of -1, of 0, of just enough and of one too few, at each place.
func TestPaths(t *testing.T) {
	var all []trial
	for n := 1; n <= 4; n++ {
		for at := range n {
			for _, path := range []int{-1, 0, 1, 2, 3, 4, -2, math.MinInt, math.MaxInt} {
				w := right(n).with(func(w *world) { w.certs[at].Path = path })
				want := error(nil)
				if path >= 0 && path < at-1 {
					want = amissAt(at, api.ErrPolicy)
				}
				what := strconv.Itoa(at) + " of " + strconv.Itoa(n) + ", " + strconv.Itoa(path)
				all = append(all, trial{what, w, want})
			}
		}
	}
	exact := right(4)
	for at := 1; at < 4; at++ {
		exact.certs[at].Path = at - 1
	}
	tryQuickly(t, append(all, trial{"just enough all over", exact, nil}))
}

func TestWhoMayNotBoot(t *testing.T) {
	uses := func(what string, uses ...[]uint64) change {
		return change{what, func(w *world, at int) { w.certs[at].Uses = uses }}
	}
	for _, n := range []int{1, 2, 4} {
		tryAt(t, n, 0, []change{
			{"is Ca", func(w *world, at int) { w.certs[at].Ca = true }},
			{"is Ca, with all uses", func(w *world, at int) { w.certs[at].Ca, w.certs[at].Usage = true, 1<<16-1 }},
			usage("no Usage", -1),
			usage("below 0", -3),
			usage("far below 0", math.MinInt+api.UseSign),
			usage("nothing", 0),
			usage("the bit beside", 2),
			usage("all but signatures", 1<<16-2),
			uses("no uses"),
			uses("no identifier", nil),
			uses("another one", []uint64{1, 3, 6, 1, 4, 1, 4711, 2}),
			uses("one behind", []uint64{1, 3, 6, 1, 4, 1, 4711, 1, 0}),
			uses("one less", []uint64{1, 3, 6, 1, 4, 1, 4711}),
			uses("its end", []uint64{3, 6, 1, 4, 1, 4711, 1}),
			uses("another first one", []uint64{2, 3, 6, 1, 4, 1, 4711, 1}),
			uses("another in the middle", []uint64{1, 3, 6, 1, 5, 1, 4711, 1}),
			uses("a great one", []uint64{1, 3, 6, 1, 4, 1, 4711, 1<<63 + 1}),
			uses("in two", []uint64{1, 3, 6, 1}, []uint64{4, 1, 4711, 1}),
			uses("any", []uint64{2, 5, 29, 37, 0}),
		}, api.ErrPolicy)
	}
}

func TestWhoMayBoot(t *testing.T) {
	uses := func(what string, uses ...[]uint64) change {
		return change{what, func(w *world, at int) { w.certs[at].Uses = uses }}
	}
	boot, other := bootUses()[0], []uint64{1, 2, 3}
	for _, n := range []int{1, 3} {
		tryAt(t, n, 0, []change{
			usage("all", 1<<16-1),
			usage("more than all", math.MaxInt),
			usage("with others", api.UseSign|api.UseCert),
			uses("the first one of three", boot, other, other),
			uses("in the middle", other, boot, other),
			uses("the last one of many", append(slices.Repeat([][]uint64{other}, 20), boot)...),
			uses("twice", boot, boot),
		}, 0)
	}
}

// The first one needn't be what those above it must be, nor they what it must be.
func TestUsesStandAtTheirPlaces(t *testing.T) {
	tryQuickly(t, []trial{
		{"one alone that may only issue", world{[]api.Cert{caAt(1)}, right(1).anchor, rightNow, right(1).lists}, amissAt(0, api.ErrPolicy)},
		{"the leaf stands above", right(2).with(func(w *world) {
			w.certs[1].Ca, w.certs[1].Uses, w.certs[1].Usage = false, bootUses(), 1<<16-1
		}), amissAt(1, api.ErrPolicy)},
		{"an issuer comes first", right(2).with(func(w *world) {
			w.certs[0].Ca, w.certs[0].Usage = true, 1<<16-1
		}), amissAt(0, api.ErrPolicy)},
	})
}
