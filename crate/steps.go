package crate

// stepKind is what a step does.
type stepKind int

const (
	makeFolder stepKind = iota
	makeFile            // with no bytes yet
	writeBytes
	showAll
)

// mostWritten is how many bytes one step can write.
const mostWritten = 16

// step is done as a whole or not at all.
type step struct {
	kind  stepKind
	path  string // of a file or folder, or the name under which all is shown
	bytes string
}

// tree is what was made beside: the bytes of files by their paths; folders
// have none.
type tree map[string][]byte

func (t tree) files() []File {
	files := make([]File, 0, len(t))
	for path, bytes := range t {
		files = append(files, File{Path: path, Data: string(bytes)})
	}
	sortByPath(files)
	return files
}

// cut is what the last Cut said, as far as it still holds.
type cut struct {
	isSet bool
	left  int  // how many steps can be made
	fails bool // of the one behind these: it fails, and the power stays
}

// passes counts a step; false if it can't be made.
func (c *cut) passes() bool {
	if !c.isSet {
		return true
	}
	if c.left == 0 {
		return false
	}
	c.left--
	return true
}

// build makes what Unpack told, beside, step by step, up to the one that shows
// all of it.
func (s *Store) build(folder string, files []File) Errno {
	s.makeMaps()
	for _, f := range files {
		if !s.buildOne(f) {
			return s.stop(files)
		}
	}
	if !s.do(step{kind: showAll, path: folder}) {
		return s.stop(files)
	}
	return OK
}

// makeMaps is called as late as this, so that a Store which NewStore did not
// make has them, too.
func (s *Store) makeMaps() {
	if s.shown == nil {
		s.shown, s.beside = map[string][]File{}, tree{}
	}
}

// buildOne makes a file or a folder; false if a step can't be made.
func (s *Store) buildOne(f File) bool {
	if isFolder(f.Path) {
		return s.do(step{kind: makeFolder, path: f.Path})
	}
	done := s.do(step{kind: makeFile, path: f.Path})
	for rest := f.Data; done && rest != ""; {
		count := min(len(rest), mostWritten)
		done = s.do(step{kind: writeBytes, path: f.Path, bytes: rest[:count]})
		rest = rest[count:]
	}
	return done
}

// do makes a step; false if it can't be made.
func (s *Store) do(next step) bool {
	if !s.cut.passes() {
		return false
	}
	switch next.kind {
	case makeFolder, makeFile:
		s.beside[next.path] = nil
	case writeBytes:
		s.beside[next.path] = append(s.beside[next.path], next.bytes...)
	case showAll:
		s.shown[next.path] = s.beside.files()
		clear(s.beside)
	}
	return true
}

// stop ends an Extract of these files, whose next step can't be made.
func (s *Store) stop(files []File) Errno {
	if s.cut.fails {
		s.takeBack(files)
		s.cut = cut{}
	} else {
		// What lies beside stays there till Boot: without power none can take it back.
		s.noPower = true
	}
	return ErrStep
}

// takeBack passes over those of the files that were not made.
func (s *Store) takeBack(files []File) {
	for _, f := range files {
		delete(s.beside, f.Path)
	}
}
