package crate

import (
	"slices"
	"strings"
)

// Unpack tells all files and folders of an archive, in the order of their
// paths, once List finds nothing wrong and each file gives what its entry says.
func Unpack(archive string, q Quota) ([]File, Errno) {
	entries, e := List(archive, q)
	if e != OK {
		return nil, e
	}
	all, e := filesOf(archive, entries)
	if e != OK {
		return nil, e
	}
	all = append(all, foldersOf(entries)...)
	sortByPath(all)
	return all, OK
}

func sortByPath(files []File) {
	slices.SortFunc(files, func(a, b File) int { return comparePaths(a.Path, b.Path) })
}

// filesOf unpacks the files, in the order of the entries, up to the first fault.
func filesOf(archive string, entries []Entry) ([]File, Errno) {
	var files []File
	for _, entry := range entries {
		if isFolder(entry.Name) {
			continue
		}
		data, e := dataOf(archive, entry)
		if e != OK {
			return nil, e
		}
		files = append(files, File{Path: entry.Name, Data: data})
	}
	return files, OK
}

// dataOf tells what a file holds. List has seen that its bytes lie in the
// archive.
func dataOf(archive string, entry Entry) (string, Errno) {
	data, e := given(archive[entry.Place:entry.Place+entry.Packed], entry)
	if e != OK {
		return "", e
	}
	if Sum(data) != entry.Sum {
		return "", ErrSum
	}
	return data, OK
}

// given tells what the bytes of a file give, as they lie in the archive. Of a
// plain one List has seen that they are as many as its size says.
func given(bytes string, entry Entry) (string, Errno) {
	if entry.Method == plainFile {
		// A piece of the archive would keep all of it in memory.
		return strings.Clone(bytes), OK
	}
	return inflateWhole(bytes, entry.Size)
}

// inflateWhole tells what packed bytes give, which must be just so many bytes
// and must need all of the packed ones.
func inflateWhole(packed string, size int) (string, Errno) {
	data, taken, e := Inflate(packed, size)
	switch {
	case e == ErrMuch || e == OK && len(data) != size:
		return "", ErrSize
	case e != OK:
		return "", e
	case taken != len(packed):
		return "", ErrData
	}
	return data, OK
}

// foldersOf tells each folder once, whether entries name it, lead through it,
// or both: every `/` of a name is the end of a folder's path.
func foldersOf(entries []Entry) []File {
	var folders []File
	known := map[string]struct{}{}
	for _, entry := range entries {
		for i := range len(entry.Name) {
			if entry.Name[i] != '/' {
				continue
			}
			path := entry.Name[:i+1]
			if _, found := known[path]; !found {
				known[path] = struct{}{}
				folders = append(folders, File{Path: path})
			}
		}
	}
	return folders
}
