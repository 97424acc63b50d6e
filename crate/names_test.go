package crate_test

import (
	"fmt"
	"strings"
	"testing"

	"crate/crate"
)

func TestNamesByEachByte(t *testing.T) {
	for b := range 256 {
		for _, name := range []string{
			"a" + string([]byte{byte(b)}) + "c", string([]byte{byte(b)}) + "c", "a" + string([]byte{byte(b)}), "d/" + string([]byte{byte(b)}), string([]byte{byte(b)}) + "/",
		} {
			good := b >= 32 && b <= 126 && !strings.ContainsRune("\\:\"", rune(b))
			for part := range strings.SplitSeq(strings.TrimSuffix(name, "/"), "/") {
				good = good && part != "" && part != "."
			}
			if good {
				listsAll(t, fmt.Sprintf("%q", name), stored(name, ""))
			} else {
				refusesItems(t, fmt.Sprintf("%q", name), crate.ErrName, stored(name, ""))
			}
		}
	}
}

func TestNamesByLength(t *testing.T) {
	long := strings.Repeat("n", 60)
	for _, name := range []string{"n", long, long[:59], long[:59] + "/", strings.Repeat("n/", 29) + "nn", strings.Repeat("n/", 30)} {
		listsAll(t, name, stored(name, ""))
	}
	for _, name := range []string{"", long + "n", long + "/", long[:30] + "/" + long[:30], strings.Repeat("n/", 31), strings.Repeat("n", 65535)} {
		refusesItems(t, fmt.Sprintf("%.70s", name), crate.ErrName, stored(name, ""))
	}
}

func TestNamesByParts(t *testing.T) {
	for _, name := range []string{
		"a", "a/", "a/b", "a/b/", "...", "a/...", ".../b", "..a", "a..", ".a", "a.", "a/.b/c", "a/b./c", " ", " / ", "~", "a/b/c/d/e", "*?<>|", "a/.. /b", ". ",
	} {
		listsAll(t, fmt.Sprintf("%q", name), stored(name, ""))
	}
	for _, name := range []string{
		"/", "//", "a//", "/a", "//a", "a//b", "a/b//", ".", "./", "..", "../", "./a", "../a", "a/.", "a/./", "a/..", "a/../", "a/./b", "a/../b", "a/b/..", "/.", "/..",
		"a\\b", "..\\a", "\\", "C:", "C:/a", "c:\\a", "a\"b", "\"", "a\x00b", "\x00", "a\n", "a\tb", "\x7f", "a/\x1f", "\u00e9", "a/\u4e16", "a\xff", "\x80",
	} {
		refusesItems(t, fmt.Sprintf("%q", name), crate.ErrName, stored(name, ""))
		refusesItems(t, fmt.Sprintf("%q, the second", name), crate.ErrName, stored("first", ""), stored(name, ""))
	}
}

func namesOf(names ...string) []item {
	var items []item
	for _, name := range names {
		items = append(items, stored(name, ""))
	}
	return items
}

func TestNamesInEachOthersWay(t *testing.T) {
	for _, names := range []string{
		"a a", "a a/", "a/ a/", "a a/b", "a a/b/", "a a/b/c", "a/b a/b", "a/b a/b/", "a/b/ a/b/", "a/b a/b/c", "a/b/c a/b/c/d/e",
		"a b a", "a/x b a", "x a/ y a/", "a/b/ a/b/c a", "a/b/ a/b/c a/b", "a/ a/b a/b/c", "a/ a/b/ a/b/c/ a/b/c/d a/b/c",
	} {
		list := strings.Fields(names)
		refusesItems(t, names, crate.ErrTwice, namesOf(list...)...)
		for i := range list {
			list[i] = "folder/" + list[i]
		}
		refusesItems(t, "below a folder: "+names, crate.ErrTwice, namesOf(list...)...)
		for i := range len(list) / 2 {
			list[i], list[len(list)-1-i] = list[len(list)-1-i], list[i]
		}
		refusesItems(t, "turned: "+names, crate.ErrTwice, namesOf(list...)...)
	}
}

func TestNamesBesideEachOther(t *testing.T) {
	for _, names := range []string{
		"a A", "a ab", "ab a", "a/ a/b", "a/b a/", "a/b a/c", "a/b ab", "a/b a.b a!b", "a/b/c a/b/ a/", "a/ a/b/ a/b/c", "a/a/a a/a/ a/",
		"a/b/ a/c", "b/a a", "a/b b/a", "a/bc a/b", "a/b/c a/bc", "a/b.c a/b", "aa/b a",
	} {
		list := strings.Fields(names)
		listsAll(t, names, namesOf(list...)...)
		for i := range len(list) / 2 {
			list[i], list[len(list)-1-i] = list[len(list)-1-i], list[i]
		}
		listsAll(t, "turned: "+names, namesOf(list...)...)
	}
}
