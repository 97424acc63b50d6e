package crate

import (
	"maps"
	"slices"
	"strings"
	"sync"
)

// Store keeps what was unpacked: folders, each of them shown as a whole or not
// at all. It may be asked from several goroutines at one time.
type Store struct {
	lock    sync.Mutex        // held by each call from its beginning to its end
	shown   map[string][]File // by the folder's name
	beside  tree              // what an Extract made and could not show, or not yet
	cut     cut
	noPower bool
}

// NewStore makes a store that shows nothing.
func NewStore() *Store {
	return &Store{}
}

// Extract unpacks an archive, and shows all of it under a folder's name, or
// nothing.
func (s *Store) Extract(folder string, archive string, q Quota) Errno {
	s.lock.Lock()
	defer s.lock.Unlock()
	if s.noPower {
		return ErrStep
	}
	if !isFolderName(folder) {
		return ErrArg
	}
	if _, found := s.shown[folder]; found {
		return ErrTwice
	}
	files, e := Unpack(archive, q)
	if e != OK {
		return e
	}
	return s.build(strings.Clone(folder), files)
}

// isFolderName tells whether a folder may be shown under this name.
func isFolderName(folder string) bool {
	return isName(folder) && !strings.Contains(folder, "/")
}

// Cut says that n steps more can be made. The next one then fails, or the power
// goes ahead of it.
func (s *Store) Cut(n int, fails bool) Errno {
	s.lock.Lock()
	defer s.lock.Unlock()
	if n < 0 {
		return ErrArg
	}
	s.cut = cut{isSet: true, left: n, fails: fails}
	return OK
}

// Boot gives the power back; what an Extract left beside, and a Cut, are
// forgotten.
func (s *Store) Boot() {
	s.lock.Lock()
	defer s.lock.Unlock()
	clear(s.beside)
	s.cut = cut{}
	s.noPower = false
}

// Folders tells the names of all folders that are shown, in their order.
func (s *Store) Folders() []string {
	s.lock.Lock()
	defer s.lock.Unlock()
	return slices.Sorted(maps.Keys(s.shown))
}

// Files tells what a folder has, as Unpack told it.
func (s *Store) Files(folder string) ([]File, Errno) {
	s.lock.Lock()
	defer s.lock.Unlock()
	files, found := s.shown[folder]
	if !found {
		return nil, ErrAbsent
	}
	return slices.Clone(files), OK
}
