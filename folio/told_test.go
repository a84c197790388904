package folio

import (
	"errors"
	"testing"

	"folio/api"
)

// TestP1Told: whatever was thrown, a call answers an error and not OK.
func TestP1Told(t *testing.T) {
	for _, c := range []struct {
		caught any
		want   api.Errno
	}{
		{api.ErrCap, api.ErrCap},
		{api.ErrFile, api.ErrFile},
		{api.ErrData, api.ErrData},
		{errors.New("index out of range"), api.ErrData},
		{"text", api.ErrData},
		{6, api.ErrData},
	} {
		if got := told(c.caught); got != c.want {
			t.Errorf("told(%v) = %d, want %d", c.caught, got, c.want)
		}
	}
}
