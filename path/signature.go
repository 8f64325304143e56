package path

import (
	"escutcheon/api"
	"escutcheon/ecdsa"
	"escutcheon/sha"
)

// answer is what is known of a signature.
type answer int

const (
	unasked answer = iota
	holds
	fails
)

// answers are those of what lies at a place, and of who is to have signed it. A search comes upon the
// same signature in many chains: that of each is reckoned once, as that is what takes the time.
type answers [api.MaxPool][anchorPlace + 1]answer

func (a *answers) hold(place int, by issuer, body []byte, s api.Sig) bool {
	known := &a[place][by.place]
	if *known == unasked {
		*known = fails
		if ecdsa.Verify(by.key, sha.Sum(body), s) == nil {
			*known = holds
		}
	}
	return *known == holds
}
