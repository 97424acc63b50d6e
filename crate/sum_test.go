package crate_test

import (
	"hash/crc32"
	"math/rand"
	"strings"
	"testing"

	"crate/crate"
)

func TestSumOfKnownTexts(t *testing.T) {
	for text, want := range map[string]uint32{
		"":                            0,
		"\x00":                        0xD202EF8D,
		"\xff":                        0xFF000000,
		"a":                           0xE8B7BE43,
		"123456789":                   0xCBF43926,
		strings.Repeat("\x00", 32):    0x190A55AD,
		strings.Repeat("\xff", 32):    0xFF6CAB0B,
		"\x00\x00\x00\x00":            0x2144DF1C,
		"\xff\xff\xff\xff":            0xFFFFFFFF,
		"no letters but \u00e4\u4e16": crc32.ChecksumIEEE([]byte("no letters but \u00e4\u4e16")),
	} {
		if got := crate.Sum(text); got != want {
			t.Errorf("Sum(%q) = %08X, want %08X", text, got, want)
		}
	}
}

// sumAsSaid is the document's rule, word by word.
func sumAsSaid(text string) uint32 {
	sum := ^uint32(0)
	for i := range len(text) {
		sum ^= uint32(text[i])
		for range 8 {
			out := sum & 1
			sum >>= 1
			if out == 1 {
				sum ^= 0xEDB88320
			}
		}
	}
	return ^sum
}

func TestSumOfAllBytesAndManyTexts(t *testing.T) {
	for b := range 256 {
		text := string([]byte{byte(b)})
		if got, want := crate.Sum(text), sumAsSaid(text); got != want {
			t.Errorf("Sum(%q) = %08X, want %08X", text, got, want)
		}
	}
	r := rand.New(rand.NewSource(1))
	for size := range 300 {
		text := make([]byte, size)
		r.Read(text)
		if got, want := crate.Sum(string(text)), sumAsSaid(string(text)); got != want {
			t.Errorf("Sum of %d bytes = %08X, want %08X", size, got, want)
		}
	}
}
