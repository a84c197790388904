// Package folio: documents as bytes, written in one way, and read in none but the right ones: see DOC.md.
package folio

import (
	"folio/api"
	"folio/document"
	"folio/filters"
	"folio/number"
	"folio/reader"
	"folio/writer"
)

// Encode encodes bytes (P3).
func Encode(filter int, data []byte) ([]byte, api.Errno) {
	if !number.Within(filter, api.Hex, api.Flate) {
		return nil, api.ErrArg
	}
	if !number.Within(len(data), 0, api.MaxFile) {
		return nil, api.ErrLong
	}
	return filters.Encode(filter, data), api.OK
}

// Decode decodes bytes (P4).
func Decode(filter int, data []byte, most int) (out []byte, wrong api.Errno) {
	if !number.Within(filter, api.Hex, api.Flate) || !number.Within(most, 0, api.MaxCap) {
		return nil, api.ErrArg
	}
	if !number.Within(len(data), 0, api.MaxFile) {
		return nil, api.ErrLong
	}
	defer func() {
		if caught := recover(); caught != nil {
			out, wrong = nil, told(caught, api.ErrData)
		}
	}()
	return filters.Decode(filter, data, most), api.OK
}

// Write writes a document (P5).
func Write(d api.Document) ([]byte, api.Errno) {
	if !document.Is(d) {
		return nil, api.ErrDocument
	}
	file := writer.File(d)
	if !number.Within(len(file), 0, api.MaxFile) {
		return nil, api.ErrLong
	}
	return file, api.OK
}

// Read reads a file (P6).
func Read(file []byte, most int) (d api.Document, wrong api.Errno) {
	if !number.Within(most, 0, api.MaxCap) {
		return api.Document{}, api.ErrArg
	}
	if !number.Within(len(file), 0, api.MaxFile) {
		return api.Document{}, api.ErrLong
	}
	defer func() {
		if caught := recover(); caught != nil {
			d, wrong = api.Document{}, told(caught, api.ErrFile)
		}
	}()
	return reader.Document(file, most), api.OK
}

// told answers the error that a reader gave up with.
// No call may panic, so that even what no reader meant to tell is an answer: that what it read can't be right.
func told(caught any, otherwise api.Errno) api.Errno {
	if wrong, ok := caught.(api.Errno); ok {
		return wrong
	}
	return otherwise
}
