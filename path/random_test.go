package path

import (
	"math/rand"
	"slices"
	"strconv"
	"testing"

	"escutcheon/api"
)

// P19.1, P19.2, P19.4 at random: against what the chapter says, told another way

func someOf[T any](r *rand.Rand, l ...T) T { return l[r.Intn(len(l))] }

func someName(r *rand.Rand) api.Name {
	return someOf(r, nil, nameAt(0), nameAt(1), nameAt(2), nameAt(3), api.Name{org("another org")}, append(nameAt(1), unit("b")))
}

func someKey(r *rand.Rand) int { return someOf(r, keyAt(0), keyAt(1), keyAt(2), strangerKey) }

// someTime lies near enough to be just now, or one beside it.
func someTime(r *rand.Rand) int64 { return rightNow + someOf[int64](r, -1, 0, 1, -around, around) }

func someUsage(r *rand.Rand) int {
	return someOf(r, -1, 0, api.UseSign, api.UseCert, api.UseCrl, api.UseCert|api.UseCrl, 1<<16-1, -2, 1<<16-1-api.UseCrl)
}

func someSerials(r *rand.Rand, w *world) []api.Gone {
	gone := []api.Gone{{Serial: []byte{3}, At: 3}}
	if len(w.certs) > 0 {
		gone = append(gone, api.Gone{Serial: someOf(r, w.certs...).Serial, At: 4})
	}
	return someOf(r, nil, gone, gone[:1])
}

func changeSomeCert(r *rand.Rand, c *api.Cert) {
	switch r.Intn(14) {
	case 0:
		c.Issuer = someName(r)
	case 1:
		c.Subject = someName(r)
	case 2:
		c.From = someTime(r)
	case 3:
		c.To = someTime(r)
	case 4:
		c.Key = pointOf(someKey(r))
	case 5:
		c.Ca = !c.Ca
	case 6:
		c.Path = r.Intn(5) - 2
	case 7:
		c.Usage = someUsage(r)
	case 8:
		c.Uses = someOf(r, nil, bootUses(), [][]uint64{{1, 3, 6, 1, 4, 1, 4711, 2}})
	case 9:
		c.Permit = someOf(r, nil, []api.Name{someName(r)}, []api.Name{someName(r), someName(r)})
	case 10:
		c.Exclude = someOf(r, nil, []api.Name{someName(r)}, []api.Name{someName(r), someName(r)})
	case 11:
		c.Odd = !c.Odd
	case 12:
		c.Sig = signedBy(someKey(r), c.Body)
	case 13:
		c.Serial = someOf(r, []byte{3}, []byte{7, 7, 7}, []byte{1})
	}
}

func changeSomeList(r *rand.Rand, w *world, l *api.Crl) {
	switch r.Intn(5) {
	case 0:
		l.Issuer = someName(r)
	case 1:
		l.This = someTime(r)
	case 2:
		l.Next = someTime(r)
	case 3:
		l.Sig = signedBy(someKey(r), l.Body)
	case 4:
		l.Gone = someSerials(r, w)
	}
}

// changeSome changes something of a world.
func changeSome(r *rand.Rand, w *world) {
	switch r.Intn(12) {
	case 0:
		w.anchor.Name = someName(r)
	case 1:
		w.anchor.Key = pointOf(someKey(r))
	case 2:
		w.now = someTime(r)
	case 3, 4, 5:
		if len(w.lists) > 0 {
			changeSomeList(r, w, &w.lists[r.Intn(len(w.lists))])
		}
	default:
		if len(w.certs) > 0 {
			changeSomeCert(r, &w.certs[r.Intn(len(w.certs))])
		}
	}
}

// someWorld is a right chain in which something was changed; some of its certificates and lists stand
// there twice, or not at all.
func someWorld(r *rand.Rand) world {
	w := right(1 + r.Intn(4))
	if r.Intn(2) == 0 {
		w.certs = append(w.certs, own(1+r.Intn(2)), someOf(r, w.certs...), leafAt(1), caAt(1))
		w.certs = append(w.certs[:1+r.Intn(3)], w.certs[len(w.certs)-1-r.Intn(4):]...)
		w.lists = append(w.lists, someOf(r, w.lists...), listBy(1))
	}
	w.certs, w.lists = slices.Clone(w.certs[:min(4, len(w.certs))]), slices.Clone(w.lists[:min(4, len(w.lists))])
	for range r.Intn(4) {
		changeSome(r, &w)
	}
	return w
}

func shuffled[T any](r *rand.Rand, l []T) []T {
	own := slices.Clone(l)
	r.Shuffle(len(own), func(i, k int) { own[i], own[k] = own[k], own[i] })
	return own
}

// seen counts what was answered, so that a test that always sees the same is found out.
func seen(t *testing.T, counts map[string]int, least int, wanted ...string) {
	t.Helper()
	for _, what := range wanted {
		if counts[what] < least {
			t.Errorf("%s was seen %d times only", what, counts[what])
		}
	}
}

func errorText(err error) string {
	if err == nil {
		return "nil"
	}
	return err.Error()
}

func TestChecksAtRandom(t *testing.T) {
	t.Parallel()
	r := rand.New(rand.NewSource(1))
	counts := map[string]int{}
	for range 20000 {
		w := someWorld(r)
		want := wantCheck(w)
		counts[errorText(want)]++
		tryQuickly(t, []trial{{"at random", w, want}})
	}
	wanted := []string{"nil"}
	for at := range 3 {
		for _, code := range pointCodes() {
			wanted = append(wanted, amissAt(at, code).Error())
		}
	}
	seen(t, counts, 20, wanted...)
}

func TestFindsAtRandom(t *testing.T) {
	t.Parallel()
	r := rand.New(rand.NewSource(2))
	counts := map[string]int{}
	for range 10000 {
		w := someWorld(r)
		w.certs = shuffled(r, w.certs)
		want, err := wantFind(w)
		counts[errorText(err)]++
		counts[strconv.Itoa(len(want))+" of "+strconv.Itoa(len(w.certs))]++
		searchQuickly(t, []search{{"at random", w, want}})
		checkFound(t, w, want)
	}
	seen(t, counts, 50, "nil", errorText(api.ErrChain), "1 of 1", "1 of 4", "2 of 4", "3 of 4", "4 of 4", "2 of 3", "3 of 3", "2 of 2", "1 of 2")
}

// checkFound asks for what follows: a chain that was found is taken, and lists in another order, or more
// that speak for nobody, change nothing.
func checkFound(t *testing.T, w world, want []int) {
	t.Helper()
	if len(want) > 0 {
		if err := told(w.of(want)).checkAll(); err != nil {
			t.Errorf("%v was found, but: %v", want, err)
		}
	}
	for _, order := range orders(len(w.lists)) {
		other := w.with(func(w *world) { w.lists = inOrder(w.lists, order) })
		if got, _ := told(other).find(); !slices.Equal(got, want) {
			t.Errorf("%v, and with the lists in another order %v", want, got)
		}
	}
	if len(w.lists) < 4 {
		nobodys := api.Crl{Issuer: w.anchor.Name, This: w.now, Next: w.now, Gone: []api.Gone{{Serial: []byte{3}}}, Body: []byte("nobody's")}
		for _, c := range w.certs {
			nobodys.Gone = append(nobodys.Gone, api.Gone{Serial: c.Serial})
		}
		other := w.with(func(w *world) { w.lists = append(w.lists, nobodys) })
		if got, _ := told(other).find(); !slices.Equal(got, want) {
			t.Errorf("%v, and with a list that speaks for nobody %v", want, got)
		}
	}
}

// A few of them with all that the calls reckon.
func TestSomeWorldsAtRandom(t *testing.T) {
	r := rand.New(rand.NewSource(3))
	var all []trial
	var searches []search
	for i := range 20 {
		w := someWorld(r)
		all = append(all, trial{strconv.Itoa(i), w, wantCheck(w)})
		w.certs = shuffled(r, w.certs)
		want, _ := wantFind(w)
		searches = append(searches, search{strconv.Itoa(i) + ", shuffled", w, want})
	}
	tryAll(t, all)
	searchAll(t, searches)
}
