package recur

import (
	"vinculum/api"
	"vinculum/upoly"
)

// mostMore is how many numbers More puts behind a row.
const mostMore = 100000

// few is how many numbers are put behind a row one by one: of more, halves are faster (as
// measured).
const few = 64

// More is a row, and so many numbers more by a rule.
func More(p uint64, r Rule, row []uint64, many int) ([]uint64, api.Errno) {
	f, err := fieldOf(p)
	switch {
	case err != api.OK:
		return nil, err
	case many < 0 || len(row) < len(r):
		return nil, api.ErrArg
	case many > mostMore:
		return nil, api.ErrLimit
	}
	longer := append(f.left(row), make([]uint64, many)...)
	f.bring(r, longer, len(row))
	f.fill(r, longer[len(row):])
	// What append has put behind the numbers is no part of the answer.
	return longer[:len(longer):len(longer)], api.OK
}

// fill makes a block of a row out of what the numbers ahead of the block bring to each of
// its places.
func (f field) fill(r Rule, block []uint64) {
	if len(block) <= few {
		for place, x := range block {
			sum := f.numbers.Add(x, f.brought(r, block[:place:place]))
			block[place] = f.numbers.Sub(0, sum)
		}
		return
	}
	half := len(block) / 2
	f.fill(r, block[:half:half])
	f.bring(r, block, half)
	f.fill(r, block[half:])
}

// bring adds, to each place of a row from a first one on, what the numbers ahead of that
// first one bring to it.
func (f field) bring(r Rule, row []uint64, first int) {
	from := max(0, first-len(r))
	brought := f.product(row[from:first:first], upoly.Poly(r[:min(len(r), len(row)-from)]))
	for i, x := range brought {
		// A number times r0 comes to the next place.
		if place := from + i + 1; place >= first && place < len(row) {
			row[place] = f.numbers.Add(row[place], x)
		}
	}
}
