package path

import (
	"bytes"
	"crypto/ecdsa"
	"crypto/elliptic"
	"crypto/sha512"
	"errors"
	"math/big"
	"slices"
	"sync"

	"escutcheon/api"
)

// What the chapter says, told another way: the library's own signatures, every point by itself, and all
// chains that there are, laid in their order before one is looked at.

// world is what a call is given.
type world struct {
	certs  []api.Cert
	anchor api.Anchor
	now    int64
	lists  []api.Crl
}

func bigOf(a api.U384) *big.Int {
	n := new(big.Int)
	for i := range a {
		n.Lsh(n, 64).Or(n, new(big.Int).SetUint64(a[len(a)-1-i]))
	}
	return n
}

// remembered makes what belongs to a key once: the library's curve is quick, but is asked very often.
func remembered[K comparable, V any](all *sync.Map, key K, make func() V) V {
	if known, ok := all.Load(key); ok {
		return known.(V)
	}
	made := make()
	all.Store(key, made)
	return made
}

// asked is what the library is asked.
type asked struct {
	q    api.Point
	body string
	s    api.Sig
}

var answered sync.Map

func wantHolds(q api.Point, body []byte, s api.Sig) bool {
	return remembered(&answered, asked{q, string(body), s}, func() bool {
		digest := sha512.Sum384(body)
		key := ecdsa.PublicKey{Curve: elliptic.P384(), X: bigOf(q.X), Y: bigOf(q.Y)}
		return !q.None && ecdsa.Verify(&key, digest[:], bigOf(s.R), bigOf(s.S))
	})
}

// nameAbove and keyAbove are of who stands above the certificate at a place.
func (w world) nameAbove(at int) api.Name {
	if at+1 < len(w.certs) {
		return w.certs[at+1].Subject
	}
	return w.anchor.Name
}

func (w world) keyAbove(at int) api.Point {
	if at+1 < len(w.certs) {
		return w.certs[at+1].Key
	}
	return w.anchor.Key
}

func sameName(a, b api.Name) bool {
	if len(a) != len(b) {
		return false
	}
	for i := range a {
		if a[i].Kind != b[i].Kind || a[i].Text != b[i].Text {
			return false
		}
	}
	return true
}

func isWithin(n, base api.Name) bool {
	for i, p := range base {
		if i >= len(n) || n[i] != p {
			return false
		}
	}
	return true
}

func isWithinOne(n api.Name, bases []api.Name) bool {
	for _, base := range bases {
		if isWithin(n, base) {
			return true
		}
	}
	return false
}

// saysBit asks for a use as the chapter tells it: a bit of a Usage that isn't below 0.
func saysBit(c api.Cert, bit int) bool { return c.Usage >= 0 && c.Usage>>bit%2 == 1 }

const (
	signBit = 0
	certBit = 5
	crlBit  = 6
)

func (w world) speaksFor(l api.Crl, at int) bool {
	if !sameName(l.Issuer, w.nameAbove(at)) || w.now < l.This || l.Next < w.now {
		return false
	}
	if at+1 < len(w.certs) && !saysBit(w.certs[at+1], crlBit) {
		return false
	}
	return wantHolds(w.keyAbove(at), l.Body, l.Sig)
}

func (w world) isRevoked(at int) bool {
	spoken := false
	for _, l := range w.lists {
		if !w.speaksFor(l, at) {
			continue
		}
		spoken = true
		for _, g := range l.Gone {
			if bytes.Equal(g.Serial, w.certs[at].Serial) {
				return true
			}
		}
	}
	return !spoken
}

func (w world) isForbiddenName(at int) bool {
	n := w.certs[at].Subject
	for _, c := range w.certs[at+1:] {
		if len(c.Permit) > 0 && !isWithinOne(n, c.Permit) || isWithinOne(n, c.Exclude) {
			return true
		}
	}
	return false
}

func isNoIssuer(c api.Cert, at int) bool {
	return !c.Ca || !saysBit(c, certBit) || c.Path >= 0 && c.Path < at-1
}

func isNoLeaf(c api.Cert) bool {
	boots := false
	for _, id := range c.Uses {
		boots = boots || slices.Equal(id, []uint64{1, 3, 6, 1, 4, 1, 4711, 1})
	}
	return c.Ca || !saysBit(c, signBit) || !boots
}

// points are the chapter's seven, as what a certificate of a chain is amiss by.
func (w world) points(at int) [7]bool {
	c := w.certs[at]
	return [7]bool{
		!sameName(c.Issuer, w.nameAbove(at)),
		!wantHolds(w.keyAbove(at), c.Body, c.Sig),
		w.now < c.From || w.now > c.To,
		w.isRevoked(at),
		c.Odd || w.isForbiddenName(at),
		at > 0 && isNoIssuer(c, at),
		at == 0 && isNoLeaf(c),
	}
}

// pointCodes are what each of the seven is told by.
func pointCodes() [7]api.Code {
	return [7]api.Code{api.ErrChain, api.ErrSign, api.ErrTime, api.ErrRevoked, api.ErrPolicy, api.ErrPolicy, api.ErrPolicy}
}

func wantCheck(w world) error {
	if len(w.certs) == 0 {
		return api.ErrArg
	}
	if len(w.certs) > 4 || len(w.lists) > 4 {
		return api.ErrLong
	}
	for i := range w.certs {
		at := len(w.certs) - 1 - i
		amiss := w.points(at)
		if first := slices.Index(amiss[:], true); first >= 0 {
			return &api.Spot{At: at, Err: pointCodes()[first]}
		}
	}
	return nil
}

// allChains are all lists of one to n different places, in the chapter's order.
func allChains(n int) [][]int {
	var all [][]int
	last := [][]int{{}}
	for range n {
		var longer [][]int
		for _, chain := range last {
			for next := range n {
				if !slices.Contains(chain, next) {
					longer = append(longer, append(slices.Clone(chain), next))
				}
			}
		}
		all = append(all, longer...)
		last = longer
	}
	// Of two that begin alike the shorter one comes first: that is how lists are held against each other.
	slices.SortFunc(all, slices.Compare)
	return all
}

// of is the world with a chain of its certificates.
func (w world) of(chain []int) world {
	own := w
	own.certs = nil
	for _, place := range chain {
		own.certs = append(own.certs, w.certs[place])
	}
	return own
}

func wantFind(w world) ([]int, error) {
	if len(w.certs) > 4 || len(w.lists) > 4 {
		return nil, api.ErrLong
	}
	for _, chain := range allChains(len(w.certs)) {
		if wantCheck(w.of(chain)) == nil {
			return chain, nil
		}
	}
	return nil, api.ErrChain
}

// sameError holds errors against each other as they are: a code itself, or a Spot that holds one.
func sameError(a, b error) bool {
	if a == nil || b == nil {
		return a == b
	}
	as, aIsSpot := a.(*api.Spot)
	bs, bIsSpot := b.(*api.Spot)
	if aIsSpot && bIsSpot {
		return as.At == bs.At && as.Err == bs.Err && errors.Is(a, bs.Err)
	}
	return !aIsSpot && !bIsSpot && a == b
}
