package crate

import "strings"

// List tells what the directory of an archive says, in its order, once all
// that can be looked at without unpacking is found to be right and allowed.
func List(archive string, q Quota) ([]Entry, Errno) {
	d, e := findDirectory(archive)
	switch {
	case e != OK:
		return nil, e
	case d.count > q.Entries:
		return nil, ErrQuota
	case !d.liesAsSaid():
		return nil, ErrDirectory
	}
	list, e := d.takeAll(archive)
	switch {
	case e != OK:
		return nil, e
	case !within(q.Names, list, nameSize):
		return nil, ErrQuota
	case anyTwice(list):
		return nil, ErrTwice
	}
	if !findSpans(list, archive[:d.place]) {
		return nil, ErrHeader
	}
	switch {
	case anyOverlap(list):
		return nil, ErrOverlap
	case !within(q.Bytes, list, fileSize):
		return nil, ErrQuota
	}
	return entriesOf(list), OK
}

func nameSize(l listed) int { return len(l.Name) }
func fileSize(l listed) int { return l.Size }

// within tells whether sizes are together no more than allowed. It takes each
// from what is left, as their sum could be more than a number can hold.
func within(allowed int, list []listed, size func(listed) int) bool {
	for _, l := range list {
		if size(l) > allowed {
			return false
		}
		allowed -= size(l)
	}
	return allowed >= 0
}

func anyTwice(list []listed) bool {
	uses := map[string]pathUse{}
	for _, l := range list {
		if !claim(uses, l.Name) {
			return true
		}
	}
	return false
}

// findSpans enters into a list where the spans lie; false if one of them is not
// as the directory says.
func findSpans(list []listed, ahead string) bool {
	for i := range list {
		if !list[i].findSpan(ahead) {
			return false
		}
	}
	return true
}

func entriesOf(list []listed) []Entry {
	entries := make([]Entry, 0, len(list))
	for _, l := range list {
		// A piece of the archive would keep all of it in memory.
		l.Name = strings.Clone(l.Name)
		entries = append(entries, l.Entry)
	}
	return entries
}
