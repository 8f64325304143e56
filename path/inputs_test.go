package path

import (
	"crypto"
	"crypto/ecdsa"
	"crypto/elliptic"
	"crypto/sha512"
	"encoding/asn1"
	"math/big"
	"slices"
	"strconv"
	"sync"
	"testing"

	"escutcheon/api"
)

// Keys and signatures are the library's.

func numberOf(n *big.Int) (a api.U384) {
	rest := new(big.Int).Set(n)
	for i := range a {
		a[i] = rest.Uint64()
		rest.Rsh(rest, 64)
	}
	return a
}

var keys, signatures sync.Map

// keyOf is the key whose secret is n.
func keyOf(n int) *ecdsa.PrivateKey {
	return remembered(&keys, n, func() *ecdsa.PrivateKey {
		key, err := ecdsa.ParseRawPrivateKey(elliptic.P384(), big.NewInt(int64(n)).FillBytes(make([]byte, 48)))
		if err != nil {
			panic(err)
		}
		return key
	})
}

func pointOf(n int) api.Point {
	key := keyOf(n)
	return api.Point{X: numberOf(key.X), Y: numberOf(key.Y)}
}

type toSign struct {
	secret int
	body   string
}

// signedBy is a signature by the key whose secret is n: the same one of the same body in every run.
func signedBy(n int, body []byte) api.Sig {
	return remembered(&signatures, toSign{n, string(body)}, func() api.Sig {
		digest := sha512.Sum384(body)
		b, err := keyOf(n).Sign(nil, digest[:], crypto.SHA384)
		if err != nil {
			panic(err)
		}
		var s struct{ R, S *big.Int }
		if _, err := asn1.Unmarshal(b, &s); err != nil {
			panic(err)
		}
		return api.Sig{R: numberOf(s.R), S: numberOf(s.S)}
	})
}

// overN is the order and d.
func overN(d int64) api.U384 {
	return numberOf(new(big.Int).Add(elliptic.P384().Params().N, big.NewInt(d)))
}

// Names.

func org(text string) api.Part    { return api.Part{Kind: api.KindOrg, Text: text} }
func unit(text string) api.Part   { return api.Part{Kind: api.KindUnit, Text: text} }
func common(text string) api.Part { return api.Part{Kind: api.KindCommon, Text: text} }

// nameAt is the name of who stands as many steps below the anchor: within the names of all above.
func nameAt(rank int) api.Name {
	n := api.Name{org("an org")}
	for i := range rank {
		n = append(n, unit("rank "+strconv.Itoa(i+1)))
	}
	return n
}

// keyAt is the secret of who stands as many steps below the anchor.
func keyAt(rank int) int { return 1000 + rank }

// strangerKey is nobody's.
const strangerKey = 99

// The time at which all is right, and how long before and behind that it still is.
const (
	rightNow = 5000
	around   = 100
)

func bootUses() [][]uint64 { return [][]uint64{{1, 3, 6, 1, 4, 1, 4711, 1}} }

// leafAt and caAt are certificates that stand as many steps below the anchor, issued by who stands one
// step above.
func leafAt(rank int) api.Cert {
	body := []byte("the leaf at rank " + strconv.Itoa(rank))
	return api.Cert{
		Serial: []byte{byte(rank), 1}, Issuer: nameAt(rank - 1), Subject: nameAt(rank), From: rightNow - around, To: rightNow + around,
		Key: pointOf(keyAt(rank)), Path: -1, Usage: api.UseSign, Uses: bootUses(), Body: body, Sig: signedBy(keyAt(rank-1), body),
	}
}

func caAt(rank int) api.Cert {
	c := leafAt(rank)
	c.Serial = []byte{byte(rank), 2}
	c.Ca, c.Usage, c.Uses = true, api.UseCert|api.UseCrl, nil
	c.Body = []byte("the one above, at rank " + strconv.Itoa(rank))
	c.Sig = signedBy(keyAt(rank-1), c.Body)
	return c
}

// listBy is a list by who stands as many steps below the anchor; somebody else is revoked by it.
func listBy(rank int) api.Crl {
	body := []byte("a list by rank " + strconv.Itoa(rank))
	return api.Crl{
		Issuer: nameAt(rank), This: rightNow - around, Next: rightNow + around,
		Gone: []api.Gone{{Serial: []byte{7, 7, 7}, At: 1}}, Body: body, Sig: signedBy(keyAt(rank), body),
	}
}

// right is a chain of n certificates that is taken: the list at a place speaks for the certificate there.
func right(n int) world {
	w := world{anchor: api.Anchor{Name: nameAt(0), Key: pointOf(keyAt(0))}, now: rightNow}
	for at := range n {
		rank := n - at
		if at == 0 {
			w.certs = append(w.certs, leafAt(rank))
		} else {
			w.certs = append(w.certs, caAt(rank))
		}
		w.lists = append(w.lists, listBy(rank-1))
	}
	return w
}

// with is a world with a change.
func (w world) with(change func(w *world)) world {
	own := w
	own.certs, own.lists = slices.Clone(w.certs), slices.Clone(w.lists)
	change(&own)
	return own
}

// signAgain lays another key above a certificate, and lets all that its owner signed hold again.
func (w *world) signAgain(at, secret int) {
	if at+1 < len(w.certs) {
		w.certs[at+1].Key = pointOf(secret)
	} else {
		w.anchor.Key = pointOf(secret)
	}
	w.certs[at].Sig = signedBy(secret, w.certs[at].Body)
	w.lists[at].Sig = signedBy(secret, w.lists[at].Body)
}

// told is a judge who needn't reckon: the library has told it which signatures hold. That is quick.
func told(w world) *judge {
	j := &judge{certs: w.certs, anchor: w.anchor, now: w.now, lists: w.lists}
	answerOf := func(key api.Point, body []byte, s api.Sig) answer {
		if wantHolds(key, body, s) {
			return holds
		}
		return fails
	}
	keys := map[int]api.Point{anchorPlace: w.anchor.Key}
	for place, c := range w.certs {
		keys[place] = c.Key
	}
	for by, key := range keys {
		for place, c := range w.certs {
			j.certSigs[place][by] = answerOf(key, c.Body, c.Sig)
		}
		for place, l := range w.lists {
			j.listSigs[place][by] = answerOf(key, l.Body, l.Sig)
		}
	}
	return j
}

// Trials: each is told apart by what it is called.

type trial struct {
	what string
	w    world
	want error
}

// amissAt is the error of a certificate's place.
func amissAt(at int, code api.Code) error { return &api.Spot{At: at, Err: code} }

func checkCheck(t *testing.T, w world, want error) {
	t.Helper()
	if err := Check(w.certs, w.anchor, w.now, w.lists); !sameError(err, want) {
		t.Errorf("Check: %v, not %v", err, want)
	}
	if err := wantCheck(w); !sameError(err, want) {
		t.Errorf("the chapter says %v, this test %v", err, want)
	}
}

// tryAll reckons all signatures: as that takes long, all trials go on at once.
func tryAll(t *testing.T, all []trial) {
	t.Helper()
	for _, one := range all {
		t.Run(one.what, func(t *testing.T) {
			t.Parallel()
			checkCheck(t, one.w, one.want)
		})
	}
}

// tryQuickly is for trials where what is amiss isn't a signature.
func tryQuickly(t *testing.T, all []trial) {
	t.Helper()
	for _, one := range all {
		if err := told(one.w).checkAll(); !sameError(err, one.want) {
			t.Errorf("%s: Check: %v, not %v", one.what, err, one.want)
		}
		if err := wantCheck(one.w); !sameError(err, one.want) {
			t.Errorf("%s: the chapter says %v, this test %v", one.what, err, one.want)
		}
	}
}

// search is a trial of Find; without places it is for ErrChain.
type search struct {
	what string
	w    world
	want []int
}

func (s search) wantErr() error {
	if len(s.want) == 0 {
		return api.ErrChain
	}
	return nil
}

func (s search) check(t *testing.T, got []int, err error) {
	t.Helper()
	if !slices.Equal(got, s.want) || !sameError(err, s.wantErr()) {
		t.Errorf("%s: Find: %v, %v, not %v, %v", s.what, got, err, s.want, s.wantErr())
	}
	if l, err := wantFind(s.w); !slices.Equal(l, s.want) || !sameError(err, s.wantErr()) {
		t.Errorf("%s: the chapter says %v, %v, this test %v, %v", s.what, l, err, s.want, s.wantErr())
	}
}

func searchAll(t *testing.T, all []search) {
	t.Helper()
	for _, one := range all {
		t.Run(one.what, func(t *testing.T) {
			t.Parallel()
			got, err := Find(one.w.certs, one.w.anchor, one.w.now, one.w.lists)
			one.check(t, got, err)
		})
	}
}

func searchQuickly(t *testing.T, all []search) {
	t.Helper()
	for _, one := range all {
		got, err := told(one.w).find()
		one.check(t, got, err)
	}
}

// orders are all orders of n places.
func orders(n int) [][]int {
	var all [][]int
	for _, chain := range allChains(n) {
		if len(chain) == n {
			all = append(all, chain)
		}
	}
	return all
}

// inOrder are items in another order.
func inOrder[T any](l []T, order []int) []T {
	var own []T
	for _, place := range order {
		own = append(own, l[place])
	}
	return own
}
