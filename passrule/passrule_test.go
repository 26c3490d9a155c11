package passrule

import (
	"math"
	"testing"

	"wavelet/api"
)

func TestPlanesAndKinds(t *testing.T) { // the head of chapter 8
	for planes := range 31 {
		plane, kind := planes-1, Cleanup
		for k := range Total(planes) {
			if Plane(planes, k) != plane || KindOf(k) != kind {
				t.Fatalf("%d planes, pass %d: plane %d, kind %d", planes, k, Plane(planes, k), KindOf(k))
			}
			switch kind {
			case Cleanup:
				plane, kind = plane-1, Significance
			case Significance:
				kind = Refinement
			default:
				kind = Cleanup
			}
		}
		if plane != -1 {
			t.Errorf("%d planes: ends above plane %d", planes, plane)
		}
	}
	if Total(-1) != 0 || Total(math.MinInt) != 0 {
		t.Error("passes without planes")
	}
}

func TestSegments(t *testing.T) { // P802
	for style := range 64 {
		for k := range 100 {
			late := style&api.Bypass != 0 && k >= 10
			raw := late && (k%3 == 1 || k%3 == 2)
			ends := style&api.TermAll != 0 || late && k%3 == 2 || style&api.Bypass != 0 && k >= 9 && k%3 == 0
			if Raw(style, k) != raw || Ends(style, k) != ends {
				t.Errorf("style %d, pass %d: %v, %v", style, k, Raw(style, k), Ends(style, k))
			}
		}
		if Ends(style, -1) || Ends(style, math.MinInt) {
			t.Error("a pass below 0 ends a segment")
		}
	}
}
