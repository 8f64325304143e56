package path

import (
	"slices"

	"escutcheon/api"
)

// bootUse is the boot use's identifier.
func bootUse() []uint64 { return []uint64{1, 3, 6, 1, 4, 1, 4711, 1} }

func isBootUse(id []uint64) bool { return slices.Equal(id, bootUse()) }

// hasUse tells whether a certificate says that it has a use. One without a Usage says nothing, and has
// none, though all bits of a number below 0 might be asked.
func hasUse(c api.Cert, use int) bool { return c.Usage >= 0 && c.Usage&use != 0 }

// mayStandAt tells whether a certificate is of use at its place of a chain.
func mayStandAt(c api.Cert, at int) bool {
	if at == 0 {
		return mayBoot(c)
	}
	// The first one isn't counted among those below.
	return mayIssue(c, at-1)
}

func mayBoot(c api.Cert) bool {
	return !c.Ca && hasUse(c, api.UseSign) && slices.ContainsFunc(c.Uses, isBootUse)
}

func mayIssue(c api.Cert, below int) bool {
	return c.Ca && hasUse(c, api.UseCert) && (c.Path < 0 || c.Path >= below)
}
