package document

import (
	"math"
	"strings"

	"folio/api"
	"folio/number"
)

// The keys of a stream's dictionary in a file that are not the document's own.
const (
	LengthKey = "Length"
	FilterKey = "Filter"
	parmsKey  = "DecodeParms"
)

const (
	mostPlaces = 5
	mostReal   = 999999999
)

// isRight tells whether what v's kind names is as it must be, its items and other objects aside.
func isRight(v api.Value) bool {
	switch v.Kind {
	case api.Null, api.Array, api.Ref:
		return true
	case api.Bool:
		return number.Within(v.N, 0, 1)
	case api.Int:
		return number.Within(v.N, math.MinInt32, math.MaxInt32)
	case api.Real:
		return isReal(v.N, v.Places)
	case api.Name:
		return isName(v.Text)
	case api.String:
		return len(v.Text) <= api.MaxText
	case api.Dict:
		return isDict(v)
	case api.Stream:
		return isStream(v)
	}
	return false
}

func isReal(n, places int) bool {
	shortest := places == 0 || n%10 != 0
	return shortest && number.Within(places, 0, mostPlaces) && number.Within(n, -mostReal, mostReal)
}

func isName(name string) bool {
	return len(name) <= api.MaxName && strings.IndexByte(name, 0) < 0
}

func isDict(v api.Value) bool {
	if len(v.Keys) != len(v.Items) {
		return false
	}
	different := make(map[string]struct{})
	for _, key := range v.Keys {
		if !isName(key) {
			return false
		}
		different[key] = struct{}{}
	}
	return len(different) == len(v.Keys)
}

func isStream(v api.Value) bool {
	if !isDict(v) || len(v.Text) > api.MaxData || len(v.Filters) > api.MaxFilters {
		return false
	}
	for _, key := range v.Keys {
		if key == LengthKey || key == FilterKey || key == parmsKey {
			return false
		}
	}
	for _, filter := range v.Filters {
		if !number.Within(filter, api.Hex, api.Flate) {
			return false
		}
	}
	return true
}

// isBare tells whether v has nothing that its kind does not name.
func isBare(v api.Value) bool {
	switch v.Kind {
	case api.Bool, api.Int, api.Ref:
		v.N = 0
	case api.Real:
		v.N, v.Places = 0, 0
	case api.Name, api.String:
		v.Text = ""
	case api.Array:
		v.Items = nil
	case api.Dict:
		v.Items, v.Keys = nil, nil
	case api.Stream:
		v.Text, v.Items, v.Keys, v.Filters = "", nil, nil, nil
	}
	return v.N == 0 && v.Places == 0 && v.Text == "" && len(v.Items)+len(v.Keys)+len(v.Filters) == 0
}
