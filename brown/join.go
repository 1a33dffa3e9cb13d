package brown

import (
	"cmp"
	"slices"

	"vinculum/api"
)

// sought is a greatest common divisor that is put together of its images: modulo primes, or
// at points.
type sought[G any] interface {
	// image is the one by a prime or a point; ErrBudget, if there is none.
	image(choice uint64) (poly, api.Errno)
	// tell takes an image. It answers whether it is time to ask what is sure.
	tell(choice uint64, image poly) bool
	// sure is what the images come to, if that is it; ErrBudget, as long as it is not.
	sure() (G, api.Errno)
	// one is 1.
	one() G
}

// found is what is sought, by choices, one after the other.
func found[G any](w sought[G], choices []uint64) (g G, err api.Errno) {
	for _, choice := range choices {
		image, err := w.image(choice)
		switch {
		case err == api.ErrBudget:
			continue
		case err != api.OK:
			return g, err
		case image[0].at == 0:
			return w.one(), api.OK // by admits: there is none with a lower place
		case !w.tell(choice, image):
			continue
		}
		if g, err := w.sure(); err != api.ErrBudget {
			return g, err
		}
	}
	return w.sure()
}

// join is what is known by images: of each coefficient a row, that is, the coefficient modulo
// a product of primes, or of the last variable less points.
type join[T any] struct {
	rows   map[place]T
	places []place // where there is a row
	all    T       // the product
	first  place   // that of all images
	many   int     // how many of these there were
}

// admits tells whether an image may be told.
//
// The first place of a greatest common divisor's image is never below the divisor's own, and
// an image for which it is the same is good. So one with a greater place than others is not;
// and one with a lower place tells that none of these was, and all begins anew, from one on.
func (j *join[T]) admits(image poly, one T) bool {
	first := image[0].at
	if j.many == 0 || first < j.first {
		*j = join[T]{rows: map[place]T{}, all: one, first: first}
	}
	return first == j.first
}

// tell takes an image, row by row: by the image's number there, which is 0 if it has no such
// term, a row comes to another one. It answers whether all rows were right already.
func (j *join[T]) tell(image poly, comesTo func(row T, number uint64) (T, bool)) bool {
	numbers := make(map[place]uint64, len(image))
	for _, x := range image {
		numbers[x.at] = x.c
		if _, is := j.rows[x.at]; !is {
			j.places = append(j.places, x.at) // its row is 0, as no image ahead has such a term
		}
	}
	right := true
	for _, at := range j.places {
		row, was := comesTo(j.rows[at], numbers[at])
		j.rows[at], right = row, right && was
	}
	j.many++
	return right
}

// falling are the places of all rows, the greatest one first.
func (j *join[T]) falling() []place {
	return slices.SortedFunc(slices.Values(j.places), func(x, y place) int { return cmp.Compare(y, x) })
}
