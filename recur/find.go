package recur

import "vinculum/api"

// mostToFind is of how many numbers a rule is looked for.
const mostToFind = 10000

// Find is a rule by which a row goes on, of which there is no shorter one.
func Find(p uint64, row []uint64) (Rule, api.Errno) {
	f, err := fieldOf(p)
	if err != api.OK {
		return nil, err
	}
	if len(row) > mostToFind {
		return nil, api.ErrLimit
	}
	return f.shortest(f.left(row)), api.OK
}

// fault is a rule, the first place at which a row does not go on by it, and what the
// number there and those ahead come to by it instead of 0.
type fault struct {
	rule  Rule
	place int
	sum   uint64
}

// shortest goes on by a rule as far as it goes, and mends it there (after Berlekamp and
// Massey).
func (f field) shortest(row []uint64) Rule {
	// At first it is as if a 1 stood ahead of the row, that the rule of no numbers does
	// not bring to 0.
	last := fault{nil, -1, 1}
	var rule Rule
	for place, x := range row {
		sum := f.numbers.Add(x, f.brought(rule, row[:place:place]))
		if sum == 0 {
			continue
		}
		now := fault{rule, place, sum}
		rule = f.mended(now, last)
		// The fault of the rule that was given up for a longer one last keeps the next
		// longer one as short as may be.
		if len(rule) > len(now.rule) {
			last = now
		}
	}
	return rule
}

// mended is the rule of a fault, less so many times that of an earlier one, moved to the
// same place, that both sums are gone. Ahead of its fault the earlier rule comes to 0: so
// nothing that was right is lost.
func (f field) mended(now, earlier fault) Rule {
	gap := now.place - earlier.place
	inverse, _ := f.numbers.Inv(earlier.sum)
	times := f.numbers.Mul(now.sum, inverse)
	mended := make(Rule, max(len(now.rule), gap+len(earlier.rule)))
	copy(mended, now.rule)
	mended[gap-1] = f.numbers.Sub(mended[gap-1], times)
	for i, x := range earlier.rule {
		mended[gap+i] = f.numbers.Sub(mended[gap+i], f.numbers.Mul(times, x))
	}
	return mended
}
