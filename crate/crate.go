// Package crate: archives, opened with care: see DOC.md.
package crate

// Errno is what a call answers: OK or the reason for a refusal.
type Errno int

const (
	OK Errno = iota
	ErrData
	ErrMuch
	ErrEnd
	ErrDisk
	ErrDirectory
	ErrMethod
	ErrName
	ErrTwice
	ErrHeader
	ErrOverlap
	ErrSize
	ErrSum
	ErrQuota
	ErrStep
	ErrArg
	ErrAbsent
)

// Entry is what a directory says of a file or a folder.
type Entry struct {
	Name         string
	Method       int
	Sum          uint32
	Packed, Size int
	Place        int // where its packed bytes begin
}

// Quota is what is allowed.
type Quota struct{ Entries, Names, Bytes int }

// File is a file, or a folder ("/" behind its path, no data).
type File struct{ Path, Data string }

// Store keeps what was unpacked.
type Store struct{}

// NewStore makes a store.
func NewStore() *Store { return &Store{} }

// Extract unpacks an archive into a folder (P6).
func (s *Store) Extract(folder string, archive string, q Quota) Errno { return OK }

// Cut says how many steps can be made (P6).
func (s *Store) Cut(n int, fails bool) Errno { return OK }

// Boot gives the power back (P6).
func (s *Store) Boot() {}

// Folders tells the folders that are shown (P7).
func (s *Store) Folders() []string { return nil }

// Files tells what a folder has (P7).
func (s *Store) Files(folder string) ([]File, Errno) { return nil, OK }
