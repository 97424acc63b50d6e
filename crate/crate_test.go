package crate_test

import (
	"testing"

	"crate/crate"
)

func TestErrorsAreCountedInTheirOrder(t *testing.T) {
	const first crate.Errno = crate.OK // does not compile unless it is a constant of the type
	if first != 0 {
		t.Errorf("OK is %d", first)
	}
	for want, e := range []crate.Errno{
		crate.OK, crate.ErrData, crate.ErrMuch, crate.ErrEnd, crate.ErrDisk, crate.ErrDirectory,
		crate.ErrMethod, crate.ErrName, crate.ErrTwice, crate.ErrHeader, crate.ErrOverlap,
		crate.ErrSize, crate.ErrSum, crate.ErrQuota, crate.ErrStep, crate.ErrArg, crate.ErrAbsent,
	} {
		if int(e) != want {
			t.Errorf("the error at %d is %d", want, e)
		}
	}
}
