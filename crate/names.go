package crate

import (
	"cmp"
	"strings"
)

const longestName = 60

// isName tells whether a name is one that a file or a folder may have: so none
// leads out of the place where all go.
func isName(name string) bool {
	if len(name) > longestName {
		return false
	}
	for i := range len(name) {
		if !isNameByte(name[i]) {
			return false
		}
	}
	for part := range strings.SplitSeq(pathOf(name), "/") {
		if part == "" || part == "." || part == ".." {
			return false
		}
	}
	return true
}

func isNameByte(b byte) bool {
	return b >= 32 && b <= 126 && b != '\\' && b != ':' && b != '"'
}

func isFolder(name string) bool {
	return strings.HasSuffix(name, "/")
}

// pathOf tells a name without what says that it is a folder's.
func pathOf(name string) string {
	return strings.TrimSuffix(name, "/")
}

// comparePaths puts paths in the order of their parts, so that all in a folder
// stands behind it, ahead of whatever has a longer part in the folder's stead.
func comparePaths(a, b string) int {
	for i := range min(len(a), len(b)) {
		if a[i] != b[i] {
			return cmp.Compare(rankInPath(a[i]), rankInPath(b[i]))
		}
	}
	return cmp.Compare(len(a), len(b))
}

// rankInPath puts the end of a part ahead of every byte that could lengthen it.
func rankInPath(b byte) byte {
	if b == '/' {
		return 0
	}
	return b
}

// pathUse is what a path is in the names that were looked at so far.
type pathUse int

const (
	unused  pathUse = iota
	leading         // a part of a name leads through it
	folderNamed
	fileNamed
)

// claim enters a name into the uses of paths; false if it is in the way of one
// that is in them.
func claim(uses map[string]pathUse, name string) bool {
	path := pathOf(name)
	for i := range len(path) {
		if path[i] != '/' {
			continue
		}
		if uses[path[:i]] == fileNamed {
			return false
		}
		uses[path[:i]] = max(uses[path[:i]], leading)
	}
	use := fileNamed
	if isFolder(name) {
		use = folderNamed
	}
	if uses[path] > leading || uses[path] == leading && use == fileNamed {
		return false
	}
	uses[path] = use
	return true
}
