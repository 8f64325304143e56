package manifest

import (
	"bytes"
	"crypto/elliptic"
	"encoding/asn1"
	"math"
	"math/big"

	"escutcheon/api"
)

// What the chapter says, told another way: the library's own DER writes what Encode and Sign tell; and
// it reads bytes, loosely, which are a manifest, or a signed one, if it then writes those very bytes,
// and all that they tell lies within the chapter's bounds. Whether there is room is reckoned by numbers
// of any length.

type manifestList struct {
	Version, Class, Load, Length int64
	Nonce, Wrapped, Digest       []byte
}

type signedList struct {
	Body asn1.RawValue
	Sig  asn1.BitString
}

type sigList struct{ R, S *big.Int }

func marshal(x any) []byte {
	b, err := asn1.Marshal(x)
	if err != nil {
		panic(err)
	}
	return b
}

func bigOf(a api.U384) *big.Int {
	n := new(big.Int)
	for i := range a {
		n.Lsh(n, 64).Or(n, new(big.Int).SetUint64(a[len(a)-1-i]))
	}
	return n
}

func numberOf(n *big.Int) (a api.U384) {
	rest := new(big.Int).Set(n)
	for i := range a {
		a[i] = rest.Uint64()
		rest.Rsh(rest, 64)
	}
	return a
}

// wantBytes is what Encode tells of a manifest that it takes.
func wantBytes(m api.Manifest) []byte {
	return marshal(manifestList{
		int64(m.Version), int64(m.Class), int64(m.Load), int64(m.Length),
		m.Nonce, m.Wrapped, m.Digest,
	})
}

// wantSign are the bytes of a body, which may be any element, and of a signature.
func wantSign(body []byte, s api.Sig) []byte {
	sig := marshal(sigList{bigOf(s.R), bigOf(s.S)})
	return marshal(signedList{asn1.RawValue{FullBytes: body}, asn1.BitString{Bytes: sig, BitLength: 8 * len(sig)}})
}

// reads tells whether bytes are what the library reads from them, written again.
func reads[T any](b []byte, x *T) bool {
	rest, err := asn1.Unmarshal(b, x)
	if err != nil || len(rest) > 0 {
		return false
	}
	written, err := asn1.Marshal(*x)
	return err == nil && bytes.Equal(written, b)
}

// mayBe tells whether all of a manifest lies within the bounds.
func mayBe(m manifestList) bool {
	for _, n := range []int64{m.Version, m.Class, m.Load, m.Length} {
		if n < 0 || n > math.MaxInt32 {
			return false
		}
	}
	return len(m.Nonce) == 12 && len(m.Wrapped) == 145 && len(m.Digest) == 48
}

// wantDecode is the manifest that bytes are; not ok, if they are none.
func wantDecode(b []byte) (api.Manifest, bool) {
	var x manifestList
	if !reads(b, &x) || !mayBe(x) {
		return api.Manifest{}, false
	}
	return api.Manifest{
		Version: int(x.Version), Class: int(x.Class), Load: int(x.Load), Length: int(x.Length),
		Nonce: x.Nonce, Wrapped: x.Wrapped, Digest: x.Digest,
	}, true
}

// wantSigned is the body and the signature that bytes are; not ok, if they are no signed manifest.
func wantSigned(b []byte) ([]byte, api.Sig, bool) {
	var x signedList
	var s sigList
	if !reads(b, &x) || x.Sig.BitLength%8 != 0 || !reads(x.Sig.Bytes, &s) {
		return nil, api.Sig{}, false
	}
	for _, n := range []*big.Int{s.R, s.S} {
		if n.Sign() <= 0 || n.Cmp(elliptic.P384().Params().N) >= 0 {
			return nil, api.Sig{}, false
		}
	}
	return x.Body.FullBytes, api.Sig{R: numberOf(s.R), S: numberOf(s.S)}, true
}

// wantFits is Fits's error, or nil.
func wantFits(m api.Manifest, ram int) error {
	if m.Version <= 0 || m.Version >= 65 {
		return api.ErrVersion
	}
	load, length := big.NewInt(int64(m.Load)), big.NewInt(int64(m.Length))
	end := new(big.Int).Add(load, length)
	if length.Sign() <= 0 || load.Sign() < 0 || new(big.Int).And(load, big.NewInt(15)).Sign() != 0 || end.Cmp(big.NewInt(int64(ram))) > 0 {
		return api.ErrPlace
	}
	return nil
}
