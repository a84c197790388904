package folio

import (
	"errors"
	"testing"

	"folio/api"
)

// TestP1Told: whatever was thrown, a call answers an error and not OK.
func TestP1Told(t *testing.T) {
	for _, otherwise := range []api.Errno{api.ErrData, api.ErrFile} {
		for _, c := range []struct {
			caught any
			want   api.Errno
		}{
			{api.ErrCap, api.ErrCap},
			{api.ErrFile, api.ErrFile},
			{api.ErrData, api.ErrData},
			{errors.New("index out of range"), otherwise},
			{"text", otherwise},
			{6, otherwise},
		} {
			if got := told(c.caught, otherwise); got != c.want {
				t.Errorf("told(%v, %d) = %d, want %d", c.caught, otherwise, got, c.want)
			}
		}
	}
}
