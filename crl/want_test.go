package crl

import (
	"bytes"
	"crypto/elliptic"
	"encoding/asn1"
	"math/big"
	"slices"
	"strings"
	"time"

	"escutcheon/api"
)

// What the chapter says, told another way: the library's own DER writes what Body and Encode tell;
// and it reads bytes, loosely, which are a list of revoked ones if it then writes those very bytes, and
// all that they tell lies within the chapter's bounds.

type partList struct {
	Kind asn1.ObjectIdentifier
	Text string `asn1:"utf8"`
}

// The library makes a set of a type whose name ends so.
type partSET []partList

type nameList []partSET

type algorithmList struct{ Id asn1.ObjectIdentifier }

type goneList struct {
	Serial *big.Int
	At     time.Time
}

type bodyList struct {
	Version    int
	Algorithm  algorithmList
	Issuer     nameList
	This, Next time.Time
	Gone       []goneList `asn1:"optional"`
}

type crlList struct {
	Body      bodyList
	Algorithm algorithmList
	Sig       asn1.BitString
}

type anyList struct {
	Body      asn1.RawValue
	Algorithm algorithmList
	Sig       asn1.BitString
}

type sigList struct{ R, S *big.Int }

var signedId = asn1.ObjectIdentifier{1, 2, 840, 10045, 4, 3, 3}

func marshal(x any) []byte {
	b, err := asn1.Marshal(x)
	if err != nil {
		panic(err)
	}
	return b
}

// Writing.

func bigOf(a api.U384) *big.Int {
	n := new(big.Int)
	for i := range a {
		n.Lsh(n, 64).Or(n, new(big.Int).SetUint64(a[len(a)-1-i]))
	}
	return n
}

func numberOf(n *big.Int) (a api.U384) {
	rest := new(big.Int).Set(n)
	for i := range a {
		a[i] = rest.Uint64()
		rest.Rsh(rest, 64)
	}
	return a
}

func nameListOf(n api.Name) nameList {
	l := nameList{}
	for _, p := range n {
		l = append(l, partSET{{asn1.ObjectIdentifier{2, 5, 4, p.Kind}, p.Text}})
	}
	return l
}

func goneListsOf(gone []api.Gone) []goneList {
	var l []goneList
	for _, g := range gone {
		l = append(l, goneList{new(big.Int).SetBytes(g.Serial), time.Unix(g.At, 0).UTC()})
	}
	return l
}

// wantBody is what Body tells of a list that it takes.
func wantBody(c api.Crl) []byte {
	return marshal(bodyList{
		Version:   1,
		Algorithm: algorithmList{signedId},
		Issuer:    nameListOf(c.Issuer),
		This:      time.Unix(c.This, 0).UTC(),
		Next:      time.Unix(c.Next, 0).UTC(),
		Gone:      goneListsOf(c.Gone),
	})
}

func wholeString(b []byte) asn1.BitString { return asn1.BitString{Bytes: b, BitLength: 8 * len(b)} }

// wantCrl are the bytes of a body, which may be any element, and of a signature.
func wantCrl(body []byte, s api.Sig) []byte {
	sig := marshal(sigList{bigOf(s.R), bigOf(s.S)})
	return marshal(anyList{asn1.RawValue{FullBytes: body}, algorithmList{signedId}, wholeString(sig)})
}

// Reading.

// reads tells whether bytes are what the library reads from them, written again.
func reads[T any](b []byte, x *T) bool {
	rest, err := asn1.Unmarshal(b, x)
	if err != nil || len(rest) > 0 {
		return false
	}
	written, err := asn1.Marshal(*x)
	return err == nil && bytes.Equal(written, b)
}

func wantName(l nameList) (api.Name, bool) {
	var n api.Name
	for _, set := range l {
		if len(set) != 1 {
			return nil, false
		}
		kind, text := set[0].Kind, set[0].Text
		if len(kind) != 4 || !kind[:3].Equal(asn1.ObjectIdentifier{2, 5, 4}) || !slices.Contains([]int{3, 6, 10, 11}, kind[3]) {
			return nil, false
		}
		if text == "" || len(text) > 64 || strings.ContainsFunc(text, func(x rune) bool { return x < ' ' || x > '~' }) {
			return nil, false
		}
		n = append(n, api.Part{Kind: kind[3], Text: text})
	}
	return n, len(n) <= 8
}

func wantTime(at time.Time) (int64, bool) {
	_, offset := at.Zone()
	return at.Unix(), offset == 0 && at.Year() >= 1950 && at.Year() <= 9999
}

func wantGone(l []goneList) ([]api.Gone, bool) {
	var gone []api.Gone
	for _, one := range l {
		serial := one.Serial.Bytes()
		at, ok := wantTime(one.At)
		if !ok || one.Serial.Sign() <= 0 || len(serial) > 20 {
			return nil, false
		}
		gone = append(gone, api.Gone{Serial: serial, At: at})
	}
	// A list that isn't there is nil, one that is there and empty isn't.
	return gone, l == nil || len(l) >= 1 && len(l) <= 64
}

func wantSig(x asn1.BitString) (api.Sig, bool) {
	var s sigList
	if x.BitLength%8 != 0 || !reads(x.Bytes, &s) {
		return api.Sig{}, false
	}
	for _, n := range []*big.Int{s.R, s.S} {
		if n.Sign() <= 0 || n.Cmp(elliptic.P384().Params().N) >= 0 {
			return api.Sig{}, false
		}
	}
	return api.Sig{R: numberOf(s.R), S: numberOf(s.S)}, true
}

// wantDecode is the list of revoked ones that bytes are; not ok, if they are none.
func wantDecode(b []byte) (c api.Crl, ok bool) {
	var x crlList
	if !reads(b, &x) {
		return c, false
	}
	if x.Body.Version != 1 || !x.Algorithm.Id.Equal(signedId) || !x.Body.Algorithm.Id.Equal(signedId) {
		return c, false
	}
	c.Body = marshal(x.Body)
	var oks [5]bool
	c.Issuer, oks[0] = wantName(x.Body.Issuer)
	c.This, oks[1] = wantTime(x.Body.This)
	c.Next, oks[2] = wantTime(x.Body.Next)
	c.Gone, oks[3] = wantGone(x.Body.Gone)
	c.Sig, oks[4] = wantSig(x.Sig)
	return c, !slices.Contains(oks[:], false)
}
