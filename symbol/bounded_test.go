package symbol

import (
	"strings"
	"testing"

	"inquest/api"
)

// P2.5 and P2.6: no table that CheckTable takes is too long, so the limit is asked for here.
func TestBounded(t *testing.T) {
	s := strings.Repeat("w", api.MaxText)
	if got, e := bounded(s); got != s || e != api.OK {
		t.Error(len(got), e)
	}
	if got, e := bounded(s + "w"); got != "" || e != api.ErrLarge {
		t.Error(len(got), e)
	}
}
