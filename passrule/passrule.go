// Package passrule has the rules of chapter 8 for the passes of a code-block that the coding of blocks, the layers and the packets share: what a pass is, by its index, and where segments end.
package passrule

import "wavelet/api"

// Kind is what a pass does.
type Kind int

const (
	Cleanup Kind = iota
	Significance
	Refinement
)

const (
	firstRaw = 10 // the index of the first pass that may be raw
	firstCut = 9  // that of the last pass before it
)

// KindOf returns the kind of pass k, for k from 0 on.
func KindOf(k int) Kind {
	return Kind(k % 3)
}

// Total returns how many passes a block of so many planes has.
func Total(planes int) int {
	if planes < 1 {
		return 0
	}
	return 3*planes - 2
}

// Plane returns the plane of pass k in a block of so many planes.
func Plane(planes, k int) int {
	return planes - 1 - (k+2)/3
}

// Raw tells whether the bits of pass k are raw.
func Raw(style, k int) bool {
	return style&api.Bypass != 0 && k >= firstRaw && KindOf(k) != Cleanup
}

// Ends tells whether pass k ends its segment even if other passes follow.
func Ends(style, k int) bool {
	switch {
	case k < 0:
		return false
	case style&api.TermAll != 0:
		return true
	case style&api.Bypass == 0:
		return false
	}
	return k >= firstCut && KindOf(k) == Cleanup || k >= firstRaw && KindOf(k) == Refinement
}
