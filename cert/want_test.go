package cert

import (
	"bytes"
	"crypto/ecdh"
	"crypto/elliptic"
	"encoding/asn1"
	"math/big"
	"slices"
	"strings"
	"time"

	"escutcheon/api"
)

// What the chapter says, told another way: the library's own DER writes what Body and Encode tell;
// and it reads bytes, loosely, which are a certificate if it then writes those very bytes, and all
// that they tell lies within the chapter's bounds.

type partList struct {
	Kind asn1.ObjectIdentifier
	Text string `asn1:"utf8"`
}

// The library makes a set of a type whose name ends so.
type partSET []partList

type nameList []partSET

type algorithmList struct{ Id asn1.ObjectIdentifier }

type timesList struct{ From, To time.Time }

type keyList struct {
	Kind  struct{ Key, Curve asn1.ObjectIdentifier }
	Point asn1.BitString
}

type extensionList struct {
	Id    asn1.RawValue
	Must  bool `asn1:"optional"`
	Bytes []byte
}

type bodyList struct {
	Version    int `asn1:"explicit,tag:0"`
	Serial     *big.Int
	Algorithm  algorithmList
	Issuer     nameList
	Times      timesList
	Subject    nameList
	Key        keyList
	Extensions []extensionList `asn1:"explicit,tag:3"`
}

type certList struct {
	Body      bodyList
	Algorithm algorithmList
	Sig       asn1.BitString
}

type anyList struct {
	Body      asn1.RawValue
	Algorithm algorithmList
	Sig       asn1.BitString
}

type sigList struct{ R, S *big.Int }

type caList struct {
	Ca   bool  `asn1:"optional"`
	Path int64 `asn1:"optional,default:-1"`
}

type nameBase struct {
	Name nameList `asn1:"explicit,tag:4"`
}

type namesList struct {
	Permit  []nameBase `asn1:"optional,tag:0"`
	Exclude []nameBase `asn1:"optional,tag:1"`
}

var (
	signedId = asn1.ObjectIdentifier{1, 2, 840, 10045, 4, 3, 3}
	pointId  = asn1.ObjectIdentifier{1, 2, 840, 10045, 2, 1}
	p384Id   = asn1.ObjectIdentifier{1, 3, 132, 0, 34}
)

func marshal(x any) []byte {
	b, err := asn1.Marshal(x)
	if err != nil {
		panic(err)
	}
	return b
}

// Writing.

func bigOf(a api.U384) *big.Int {
	n := new(big.Int)
	for i := range a {
		n.Lsh(n, 64).Or(n, new(big.Int).SetUint64(a[len(a)-1-i]))
	}
	return n
}

func numberOf(n *big.Int) (a api.U384) {
	rest := new(big.Int).Set(n)
	for i := range a {
		a[i] = rest.Uint64()
		rest.Rsh(rest, 64)
	}
	return a
}

func idOf(l []uint64) asn1.ObjectIdentifier {
	var id asn1.ObjectIdentifier
	for _, n := range l {
		id = append(id, int(n))
	}
	return id
}

func nameListOf(n api.Name) nameList {
	l := nameList{}
	for _, p := range n {
		l = append(l, partSET{{asn1.ObjectIdentifier{2, 5, 4, p.Kind}, p.Text}})
	}
	return l
}

func basesOf(names []api.Name) []nameBase {
	var l []nameBase
	for _, n := range names {
		l = append(l, nameBase{nameListOf(n)})
	}
	return l
}

func wholeString(b []byte) asn1.BitString { return asn1.BitString{Bytes: b, BitLength: 8 * len(b)} }

// usageString lays one bit behind the other, up to the last one that is set.
func usageString(usage int) asn1.BitString {
	var s asn1.BitString
	for i := range 16 {
		if usage>>i&1 == 0 {
			continue
		}
		for len(s.Bytes) <= i/8 {
			s.Bytes = append(s.Bytes, 0)
		}
		s.Bytes[i/8] |= 128 >> (i % 8)
		s.BitLength = i + 1
	}
	return s
}

func extensionListOf(last int, must bool, content any) extensionList {
	return extensionList{asn1.RawValue{FullBytes: marshal(asn1.ObjectIdentifier{2, 5, 29, last})}, must, marshal(content)}
}

func extensionListsOf(c api.Cert) []extensionList {
	l := []extensionList{extensionListOf(19, true, caList{c.Ca, int64(c.Path)})}
	if c.Usage != -1 {
		l = append(l, extensionListOf(15, true, usageString(c.Usage)))
	}
	if len(c.Uses) > 0 {
		var ids []asn1.ObjectIdentifier
		for _, id := range c.Uses {
			ids = append(ids, idOf(id))
		}
		l = append(l, extensionListOf(37, false, ids))
	}
	if len(c.Permit)+len(c.Exclude) > 0 {
		l = append(l, extensionListOf(30, true, namesList{basesOf(c.Permit), basesOf(c.Exclude)}))
	}
	return l
}

func pointBytes(p api.Point) []byte {
	b := make([]byte, 97)
	b[0] = 4
	bigOf(p.X).FillBytes(b[1:49])
	bigOf(p.Y).FillBytes(b[49:])
	return b
}

// wantBody is what Body tells of a certificate that it takes.
func wantBody(c api.Cert) []byte {
	x := bodyList{
		Version:    2,
		Serial:     new(big.Int).SetBytes(c.Serial),
		Algorithm:  algorithmList{signedId},
		Issuer:     nameListOf(c.Issuer),
		Times:      timesList{time.Unix(c.From, 0).UTC(), time.Unix(c.To, 0).UTC()},
		Subject:    nameListOf(c.Subject),
		Extensions: extensionListsOf(c),
	}
	x.Key.Kind.Key, x.Key.Kind.Curve = pointId, p384Id
	x.Key.Point = wholeString(pointBytes(c.Key))
	return marshal(x)
}

// wantCert are the bytes of a body, which may be any element, and of a signature.
func wantCert(body []byte, s api.Sig) []byte {
	sig := marshal(sigList{bigOf(s.R), bigOf(s.S)})
	return marshal(anyList{asn1.RawValue{FullBytes: body}, algorithmList{signedId}, wholeString(sig)})
}

// Reading.

// reads tells whether bytes are what the library reads from them, written again.
func reads(b []byte, x any, again func() any) bool {
	rest, err := asn1.Unmarshal(b, x)
	if err != nil || len(rest) > 0 {
		return false
	}
	written, err := asn1.Marshal(again())
	return err == nil && bytes.Equal(written, b)
}

func wantName(l nameList) (api.Name, bool) {
	var n api.Name
	for _, set := range l {
		if len(set) != 1 {
			return nil, false
		}
		kind, text := set[0].Kind, set[0].Text
		if len(kind) != 4 || !kind[:3].Equal(asn1.ObjectIdentifier{2, 5, 4}) || !slices.Contains([]int{3, 6, 10, 11}, kind[3]) {
			return nil, false
		}
		if text == "" || len(text) > 64 || strings.ContainsFunc(text, func(x rune) bool { return x < ' ' || x > '~' }) {
			return nil, false
		}
		n = append(n, api.Part{Kind: kind[3], Text: text})
	}
	return n, len(n) <= 8
}

func wantTime(at time.Time) (int64, bool) {
	_, offset := at.Zone()
	return at.Unix(), offset == 0 && at.Year() >= 1950 && at.Year() <= 9999
}

// wantId is the identifier of an element, whose numbers end with each byte below 128.
func wantId(x asn1.RawValue) ([]uint64, bool) {
	if x.Class != 0 || x.Tag != 6 || x.IsCompound {
		return nil, false
	}
	var l []uint64
	n, within := new(big.Int), false
	for _, b := range x.Bytes {
		if !within && b == 0x80 {
			return nil, false
		}
		n.Lsh(n, 7).Or(n, big.NewInt(int64(b&0x7f)))
		within = b >= 0x80
		if within {
			continue
		}
		if len(l) == 0 {
			root := min(n.Uint64()/40, 2)
			if n.BitLen() > 64 {
				root = 2
			}
			l = append(l, root)
			n.Sub(n, new(big.Int).SetUint64(40*root))
		}
		if n.BitLen() > 32 {
			return nil, false
		}
		l = append(l, n.Uint64())
		n.SetInt64(0)
	}
	return l, !within && len(l) > 0 && len(l) <= 16
}

func wantCa(b []byte, c *api.Cert) bool {
	var x caList
	if !reads(b, &x, func() any { return x }) || x.Path < -1 || x.Path > 1<<31-1 || x.Path >= 0 && !x.Ca {
		return false
	}
	c.Ca, c.Path = x.Ca, int(x.Path)
	return true
}

func wantUsage(b []byte, c *api.Cert) bool {
	var x asn1.BitString
	if !reads(b, &x, func() any { return x }) || x.BitLength < 1 || x.BitLength > 16 || x.At(x.BitLength-1) != 1 {
		return false
	}
	c.Usage = 0
	for i := range x.BitLength {
		c.Usage += x.At(i) << i
	}
	return true
}

func wantUses(b []byte, c *api.Cert) bool {
	var x []asn1.RawValue
	if !reads(b, &x, func() any { return x }) || len(x) < 1 || len(x) > 8 {
		return false
	}
	for _, one := range x {
		id, ok := wantId(one)
		if !ok {
			return false
		}
		c.Uses = append(c.Uses, id)
	}
	return true
}

func wantBases(l []nameBase) ([]api.Name, bool) {
	var names []api.Name
	for _, one := range l {
		n, ok := wantName(one.Name)
		if !ok {
			return nil, false
		}
		names = append(names, n)
	}
	// One that isn't there is nil, one that is there and empty isn't.
	return names, l == nil || len(l) >= 1 && len(l) <= 8
}

func wantNames(b []byte, c *api.Cert) bool {
	var x namesList
	if !reads(b, &x, func() any { return x }) || x.Permit == nil && x.Exclude == nil {
		return false
	}
	var ok1, ok2 bool
	c.Permit, ok1 = wantBases(x.Permit)
	c.Exclude, ok2 = wantBases(x.Exclude)
	return ok1 && ok2
}

func wantExtensions(l []extensionList, c *api.Cert) bool {
	c.Path, c.Usage = -1, -1
	var ids []string
	for _, x := range l {
		id, ok := wantId(x.Id)
		told := idOf(id).String()
		if !ok || slices.Contains(ids, told) {
			return false
		}
		ids = append(ids, told)
		switch told {
		case "2.5.29.19":
			ok = wantCa(x.Bytes, c)
		case "2.5.29.15":
			ok = wantUsage(x.Bytes, c)
		case "2.5.29.37":
			ok = wantUses(x.Bytes, c)
		case "2.5.29.30":
			ok = wantNames(x.Bytes, c)
		default:
			c.Odd = c.Odd || x.Must
		}
		if !ok {
			return false
		}
	}
	return len(l) > 0
}

func wantKey(x keyList) (api.Point, bool) {
	b := x.Point.Bytes
	if !x.Kind.Key.Equal(pointId) || !x.Kind.Curve.Equal(p384Id) || x.Point.BitLength != 8*97 {
		return api.Point{}, false
	}
	if _, err := ecdh.P384().NewPublicKey(b); err != nil {
		return api.Point{}, false
	}
	return api.Point{X: numberOf(new(big.Int).SetBytes(b[1:49])), Y: numberOf(new(big.Int).SetBytes(b[49:]))}, true
}

func wantSig(x asn1.BitString) (api.Sig, bool) {
	var s sigList
	if x.BitLength%8 != 0 || !reads(x.Bytes, &s, func() any { return s }) {
		return api.Sig{}, false
	}
	for _, n := range []*big.Int{s.R, s.S} {
		if n.Sign() <= 0 || n.Cmp(elliptic.P384().Params().N) >= 0 {
			return api.Sig{}, false
		}
	}
	return api.Sig{R: numberOf(s.R), S: numberOf(s.S)}, true
}

// wantDecode is the certificate that bytes are; not ok, if they are none.
func wantDecode(b []byte) (c api.Cert, ok bool) {
	var x certList
	if !reads(b, &x, func() any { return x }) {
		return c, false
	}
	if x.Body.Version != 2 || !x.Algorithm.Id.Equal(signedId) || !x.Body.Algorithm.Id.Equal(signedId) {
		return c, false
	}
	c.Serial = x.Body.Serial.Bytes()
	c.Body = marshal(x.Body)
	var oks [8]bool
	oks[0] = x.Body.Serial.Sign() > 0 && len(c.Serial) <= 20
	c.Issuer, oks[1] = wantName(x.Body.Issuer)
	c.Subject, oks[2] = wantName(x.Body.Subject)
	c.From, oks[3] = wantTime(x.Body.Times.From)
	c.To, oks[4] = wantTime(x.Body.Times.To)
	c.Key, oks[5] = wantKey(x.Body.Key)
	c.Sig, oks[6] = wantSig(x.Sig)
	oks[7] = wantExtensions(x.Body.Extensions, &c)
	return c, !slices.Contains(oks[:], false)
}
