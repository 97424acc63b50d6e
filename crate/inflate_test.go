package crate_test

import (
	"bytes"
	"compress/flate"
	"math"
	"math/rand"
	"strings"
	"testing"

	"crate/crate"
)

// refuses holds Inflate against an error, with nothing beside it.
func refuses(t *testing.T, packed string, most int, want crate.Errno) {
	t.Helper()
	if given, taken, e := crate.Inflate(packed, most); given != "" || taken != 0 || e != want {
		t.Errorf("Inflate(%.80x, %d) = %.40q (%d bytes), %d, %d, want nothing, 0, %d", packed, most, given, len(given), taken, e, want)
	}
}

func accepts(t *testing.T, packed string, most int, want string, wantTaken int) {
	t.Helper()
	if given, taken, e := crate.Inflate(packed, most); given != want || taken != wantTaken || e != crate.OK {
		t.Errorf("Inflate(%.80x, %d) = %.40q (%d bytes), %d, %d, want %.40q (%d bytes), %d, 0", packed, most, given, len(given), taken, e, want, len(want), wantTaken)
	}
}

// gives holds Inflate against what packed bytes give: with most at it, above
// it, below it and below 0; with bytes behind it; and with its end missing.
// (All of packed must be blocks.)
func gives(t *testing.T, packed, want string) {
	t.Helper()
	size := len(packed)
	for _, most := range []int{len(want), len(want) + 1, math.MaxInt} {
		accepts(t, packed, most, want, size)
	}
	accepts(t, packed+"\xff", len(want), want, size)
	accepts(t, packed+packed, len(want), want, size)
	if want == "" {
		accepts(t, packed, -1, "", size)
		accepts(t, packed, math.MinInt, "", size)
	} else {
		for _, most := range []int{len(want) - 1, 0, -1, math.MinInt} {
			refuses(t, packed, most, crate.ErrMuch)
		}
	}
	for _, end := range []int{size - 1, size - 2, size / 2, 0} {
		refuses(t, packed[:max(0, end)], math.MaxInt, crate.ErrData)
	}
}

func TestInflateExamples(t *testing.T) {
	gives(t, "\x03\x00", "")
	gives(t, "\x4b\x04\x00", "a")
	accepts(t, "\x01\x02\x00\xfd\xffabx", 2, "ab", 7)
}

func TestInflatePlain(t *testing.T) {
	long := strings.Repeat("0123456789abcdef", 4096)[:65535]
	for _, data := range []string{"", "a", "ab", strings.Repeat("x", 255), strings.Repeat("y", 256), long} {
		gives(t, (&packer{}).plain(lastBlock, data).String(), data)
	}
	gives(t, (&packer{}).plain(moreComes, "ab").plain(moreComes, "").plain(lastBlock, "c").String(), "abc")
	// The bits that are passed over may be anything.
	gives(t, "\xf9\x01\x00\xfe\xffz", "z")
	// A PLAIN block behind bits of a FIXED one: none, some or all bits of a byte are left.
	for count := range 9 {
		text := strings.Repeat("\x90", count) // 9 bits each: every place in a byte
		p := (&packer{}).fixed(moreComes).text(text).letter(256).plain(lastBlock, "z")
		gives(t, p.String(), text+"z")
	}
}

func TestInflatePlainWrong(t *testing.T) {
	for _, packed := range []string{
		"\x01\x02\x00\xfc\xffab", "\x01\x02\x00\xfd\xfeab", "\x01\x02\x00\x02\x00ab", "\x01\x00\x00\x00\x00", "\x01\x00\x01\xff\xff",
	} {
		refuses(t, packed, math.MaxInt, crate.ErrData)
		refuses(t, packed, 0, crate.ErrData) // m is looked at ahead of what is given
	}
	// Byte by byte: one that is missing is told ahead of one that is too many, if it is the same.
	two := "\x01\x02\x00\xfd\xff"
	refuses(t, two, 0, crate.ErrData)
	refuses(t, two+"a", 0, crate.ErrMuch)
	refuses(t, two+"a", 1, crate.ErrData)
	refuses(t, two+"a", 2, crate.ErrData)
	refuses(t, two+"ab", 1, crate.ErrMuch)
}

func TestInflateKind3(t *testing.T) {
	// What follows would be good for one of the other kinds.
	refuses(t, "\x07", 9, crate.ErrData)
	refuses(t, "\x07\x00", 9, crate.ErrData)
	refuses(t, "\x07\x01\x00\xfe\xffa", 9, crate.ErrData)
	own := (&packer{}).own(lastBlock, abEnd(), []int{0}).code(0, 1).code(3, 2)
	gives(t, own.String(), "a")
	own.bits[1] = 1
	refuses(t, own.String(), 9, crate.ErrData)
	refuses(t, "\x00\x01\x00\xfe\xffa\x07\x00", 9, crate.ErrData)
	refuses(t, "\x00\x01\x00\xfe\xffa\x07\x00", 0, crate.ErrMuch) // what comes first is told
}

func TestInflateFixedLetters(t *testing.T) {
	all := make([]byte, 256)
	for i := range all {
		all[i] = byte(i)
		gives(t, (&packer{}).fixed(lastBlock).letter(i).letter(256).String(), string(all[i:i+1]))
	}
	gives(t, (&packer{}).fixed(lastBlock).text(string(all)).letter(256).String(), string(all))
	for _, letter := range []int{286, 287} {
		p := (&packer{}).fixed(lastBlock).text("abc").letter(letter).distance(0).letter(256)
		refuses(t, p.String(), math.MaxInt, crate.ErrData)
		refuses(t, p.String(), 3, crate.ErrData)
		refuses(t, p.String(), 2, crate.ErrMuch)
	}
}

// rangeOf is a row of the lengths' or distances' table: its least value, and
// how many bits follow.
type rangeOf struct{ least, bits int }

var lengthRanges = []rangeOf{
	{3, 0}, {4, 0}, {5, 0}, {6, 0}, {7, 0}, {8, 0}, {9, 0}, {10, 0},
	{11, 1}, {13, 1}, {15, 1}, {17, 1}, {19, 2}, {23, 2}, {27, 2}, {31, 2},
	{35, 3}, {43, 3}, {51, 3}, {59, 3}, {67, 4}, {83, 4}, {99, 4}, {115, 4},
	{131, 5}, {163, 5}, {195, 5}, {227, 5}, {258, 0},
}

var distanceRanges = []rangeOf{
	{1, 0}, {2, 0}, {3, 0}, {4, 0}, {5, 1}, {7, 1}, {9, 2}, {13, 2}, {17, 3}, {25, 3},
	{33, 4}, {49, 4}, {65, 5}, {97, 5}, {129, 6}, {193, 6}, {257, 7}, {385, 7}, {513, 8}, {769, 8},
	{1025, 9}, {1537, 9}, {2049, 10}, {3073, 10}, {4097, 11}, {6145, 11}, {8193, 12}, {12289, 12},
	{16385, 13}, {24577, 13},
}

// copyAsSaid gives a copy byte by byte.
func copyAsSaid(text string, length, distance int) string {
	b := []byte(text)
	for range length {
		b = append(b, b[len(b)-distance])
	}
	return string(b)
}

func TestInflateEveryLength(t *testing.T) {
	for i, row := range lengthRanges {
		for more := range 1 << row.bits {
			p := (&packer{}).fixed(lastBlock).text("abc").letter(257+i).number(more, row.bits).distance(2).letter(256)
			gives(t, p.String(), copyAsSaid("abc", row.least+more, 3))
		}
	}
}

func TestInflateEveryDistance(t *testing.T) {
	r := rand.New(rand.NewSource(3))
	data := make([]byte, 32768)
	r.Read(data)
	for i, row := range distanceRanges {
		for _, more := range []int{0, 1<<row.bits - 1, (1 << row.bits) / 2} {
			more &= 1<<row.bits - 1
			distance := row.least + more
			copied := func(ahead string) string {
				return (&packer{}).plain(moreComes, ahead).fixed(lastBlock).letter(259).distance(i).number(more, row.bits).letter(256).String()
			}
			// All that was given, and no more, may lie behind a distance.
			gives(t, copied(string(data)), copyAsSaid(string(data), 5, distance))
			gives(t, copied(string(data[:distance])), copyAsSaid(string(data[:distance]), 5, distance))
			refuses(t, copied(string(data[:distance-1])), math.MaxInt, crate.ErrData)
			refuses(t, copied(string(data[:distance-1])), distance-1, crate.ErrData)
		}
	}
}

func TestInflateDistances30And31(t *testing.T) {
	// So much is given that they would not lead too far, if they were distances.
	data := strings.Repeat("0123456789", 6000)
	for _, distance := range []int{30, 31} {
		for bits := range 16 {
			p := (&packer{}).plain(moreComes, data).plain(moreComes, data).fixed(lastBlock)
			p.letter(257).distance(distance).number(0, bits).letter(256)
			refuses(t, p.String(), math.MaxInt, crate.ErrData)
			refuses(t, p.String(), 2*len(data), crate.ErrData)
		}
	}
}

func TestInflateCopyIntoItself(t *testing.T) {
	for distance := 1; distance <= 4; distance++ {
		for letter := 257; letter <= 264; letter++ {
			p := (&packer{}).fixed(lastBlock).text("wxyz").letter(letter).distance(distance - 1).letter(256)
			gives(t, p.String(), copyAsSaid("wxyz", letter-254, distance))
		}
		p := (&packer{}).fixed(lastBlock).text("wxyz").letter(285).distance(distance - 1).letter(256)
		gives(t, p.String(), copyAsSaid("wxyz", 258, distance))
	}
	refuses(t, (&packer{}).fixed(lastBlock).letter(257).distance(0).letter(256).String(), 9, crate.ErrData)
}

func TestInflateCopyReachesIntoEarlierBlocks(t *testing.T) {
	p := (&packer{}).plain(moreComes, "ab").fixed(moreComes).text("c").letter(256)
	p.own(moreComes, lengthsOf(258, map[int]int{256: 1, 257: 1}), []int{0, 0, 1})
	p.code(1, 1).code(0, 1).code(0, 1) // three bytes from three ahead
	p.fixed(lastBlock).letter(258).distance(3).letter(256)
	gives(t, p.String(), "abcabccabc")
}

func TestInflateMostInACopy(t *testing.T) {
	p := (&packer{}).fixed(lastBlock).text("ab").letter(285).distance(1).letter(256)
	for most := -1; most < 260; most++ {
		refuses(t, p.String(), most, crate.ErrMuch)
	}
	accepts(t, p.String(), 260, strings.Repeat("ab", 130), len(p.String()))
	// Wrong behind the byte that is too many, or ahead of it.
	p = (&packer{}).fixed(moreComes).text("ab").letter(257).distance(0).letter(286)
	refuses(t, p.String(), 4, crate.ErrMuch)
	refuses(t, p.String(), 5, crate.ErrData)
	p = (&packer{}).fixed(lastBlock).text("ab").letter(257).distance(2).letter(256)
	refuses(t, p.String(), 2, crate.ErrData)
	refuses(t, p.String(), 1, crate.ErrMuch)
}

// TestInflateEndsAtAnyPlace has all kinds of blocks, and numbers behind each
// kind of code.
func TestInflateEndsAtAnyPlace(t *testing.T) {
	p := (&packer{}).plain(moreComes, "plain").fixed(moreComes).text("fixed")
	p.letter(265).number(1, 1).distance(4).number(1, 1).letter(256) // 12 from 6 ahead
	p.ownHead(lastBlock, 266, 6)
	p.kind(17).number(7, 3).kind(18).number(87-11, 7).kind(2).kind(2)       // a and b, behind 97 noughts
	p.kind(18).number(127, 7).kind(18).number(19-11, 7).kind(2)             // 256
	p.kind(17).number(8-3, 3).kind(2)                                       // 265
	p.kind(0).kind(16).number(0, 2).kind(1).kind(1)                         // the distances 4 and 5
	p.code(0, 2).code(1, 2).code(3, 2).number(0, 1).code(1, 1).number(1, 1) // a, b, 11 from 8 ahead
	packed := p.code(2, 2).String()
	want := copyAsSaid(copyAsSaid("plainfixed", 12, 6)+"ab", 11, 8)
	gives(t, packed, want)
	for end := range len(packed) {
		refuses(t, packed[:end], math.MaxInt, crate.ErrData)
		refuses(t, packed[:end], len(want), crate.ErrData)
	}
}

// TestInflateEndsInADistance: bits that are missing are told ahead of bytes
// that would be too many.
func TestInflateEndsInADistance(t *testing.T) {
	data := strings.Repeat("0123456789", 2000)
	p := (&packer{}).plain(moreComes, data).fixed(lastBlock).letter(257).distance(28).number(0, 13).letter(256)
	packed := p.String()
	for end := 5 + len(data); end < 5+len(data)+4; end++ {
		refuses(t, packed[:end], len(data), crate.ErrData)
	}
	refuses(t, packed[:5+len(data)+4], len(data), crate.ErrMuch)
}

func TestInflateEveryCut(t *testing.T) {
	text := strings.Repeat("the cat and the hat, the bat and the mat; ", 40) + "\x00\xff\x80 end"
	for _, level := range []int{0, 1, 9, flate.HuffmanOnly} {
		packed := pack(t, level, text, "more")
		gives(t, packed, text+"more")
		for end := range len(packed) {
			refuses(t, packed[:end], math.MaxInt, crate.ErrData)
		}
		for most := range len(text) + 4 {
			refuses(t, packed, most, crate.ErrMuch)
		}
	}
}

// pack packs texts by the library, each in blocks of its own.
func pack(t *testing.T, level int, texts ...string) string {
	t.Helper()
	var b bytes.Buffer
	w, err := flate.NewWriter(&b, level)
	if err != nil {
		t.Fatal(err)
	}
	for i, text := range texts {
		if i > 0 {
			w.Flush()
		}
		w.Write([]byte(text))
	}
	w.Close()
	return b.String()
}

func TestInflateWhatIsPackedElsewhere(t *testing.T) {
	r := rand.New(rand.NewSource(4))
	for i := range 200 {
		var text []byte
		for range r.Intn(30) {
			if len(text) > 0 && r.Intn(2) == 0 {
				from := r.Intn(len(text))
				text = append(text, text[from:from+r.Intn(len(text)-from)]...)
			} else {
				piece := make([]byte, r.Intn(300))
				for k := range piece {
					piece[k] = byte(r.Intn(1 + r.Intn(256)))
				}
				text = append(text, piece...)
			}
		}
		text = text[:min(len(text), 100000)]
		gives(t, pack(t, []int{0, 1, 6, 9, flate.HuffmanOnly}[i%5], string(text), "x"), string(text)+"x")
	}
}

func TestInflateMuchFromLittle(t *testing.T) {
	const size = 20000000
	packed := pack(t, 9, strings.Repeat("\x00", size))
	refuses(t, packed, 1000, crate.ErrMuch)
	refuses(t, packed, size-1, crate.ErrMuch)
	accepts(t, packed, size, strings.Repeat("\x00", size), len(packed))
}

// TestInflateAnyBytes: no bytes make it panic, hold it up, or make it give
// more than is allowed.
func TestInflateAnyBytes(t *testing.T) {
	r := rand.New(rand.NewSource(5))
	good := pack(t, 9, strings.Repeat("any bytes at all, any at all; ", 20))
	for i := range 60000 {
		packed := []byte(good)
		if i%2 == 0 {
			packed = make([]byte, r.Intn(60))
			r.Read(packed)
		} else {
			for range 1 + r.Intn(3) {
				packed[r.Intn(len(packed))] ^= 1 << r.Intn(8)
			}
		}
		most := r.Intn(800) - 10
		given, taken, e := crate.Inflate(string(packed), most)
		switch {
		case e == crate.OK && (len(given) > max(most, 0) || taken < 1 || taken > len(packed)):
			t.Errorf("Inflate(%x, %d) gives %d bytes of %d", packed, most, len(given), taken)
		case e != crate.OK && (given != "" || taken != 0 || e != crate.ErrData && e != crate.ErrMuch):
			t.Errorf("Inflate(%x, %d) = %q, %d, %d", packed, most, given, taken, e)
		}
		again, takenAgain, eAgain := crate.Inflate(string(packed), most)
		if again != given || takenAgain != taken || eAgain != e {
			t.Errorf("Inflate(%x, %d) answers otherwise when it is asked again", packed, most)
		}
	}
}
