// Package crate: archives, opened with care: see DOC.md.
package crate

// Errno is what a call answers: OK or the reason for a refusal.
type Errno int

const (
	OK Errno = iota
	ErrData
	ErrMuch
	ErrEnd
	ErrDisk
	ErrDirectory
	ErrMethod
	ErrName
	ErrTwice
	ErrHeader
	ErrOverlap
	ErrSize
	ErrSum
	ErrQuota
	ErrStep
	ErrArg
	ErrAbsent
)

// Entry is what a directory says of a file or a folder.
type Entry struct {
	Name         string
	Method       int
	Sum          uint32
	Packed, Size int
	Place        int // where its packed bytes begin
}

// Quota is what is allowed.
type Quota struct{ Entries, Names, Bytes int }

// File is a file, or a folder ("/" behind its path, no data).
type File struct{ Path, Data string }
