// Package filters packs and unpacks bytes. It trusts its caller with the filter's number and with how many bytes go in:
// both are asked for at the face, and a file's streams have other limits than a call has.
package filters

import "folio/api"

// Encode answers the bytes that the filter decodes as data.
func Encode(filter int, data []byte) []byte {
	switch filter {
	case api.Hex:
		return encodeHex(data)
	case api.A85:
		return encodeA85(data)
	case api.Run:
		return encodeRun(data)
	case api.Flate:
		return encodeFlate(data)
	}
	return nil
}

// Decode answers what data means, at most that many bytes. Where it can't, it panics with an api.Errno.
func Decode(filter int, data []byte, most int) []byte {
	r := &reader{data: data, most: most}
	switch filter {
	case api.Hex:
		r.decodeHex()
	case api.A85:
		r.decodeA85()
	case api.Run:
		r.decodeRun()
	case api.Flate:
		r.decodeFlate()
	}
	return r.out
}

// Name answers what a filter is called in files.
func Name(filter int) string {
	switch filter {
	case api.Hex:
		return "ASCIIHexDecode"
	case api.A85:
		return "ASCII85Decode"
	case api.Run:
		return "RunLengthDecode"
	case api.Flate:
		return "FlateDecode"
	}
	return ""
}

// Named answers which filter is called so in files, 0 if none is.
func Named(name string) int {
	for filter := api.Hex; filter <= api.Flate; filter++ {
		if Name(filter) == name {
			return filter
		}
	}
	return 0
}
