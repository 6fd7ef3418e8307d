package authd

import "iter"

// shelf keeps things by numbers, which are given out from 1 on and never again.
type shelf[T any] struct {
	last   int
	things map[int]T
}

// add keeps one more, and tells its number.
func (s *shelf[T]) add(x T) int {
	if s.things == nil {
		s.things = map[int]T{}
	}
	s.last++
	s.things[s.last] = x
	return s.last
}

func (s *shelf[T]) get(number int) (T, bool) {
	x, is := s.things[number]
	return x, is
}

func (s *shelf[T]) drop(number int) bool {
	_, is := s.things[number]
	delete(s.things, number)
	return is
}

// all yields each thing, in any order.
func (s *shelf[T]) all() iter.Seq[T] {
	return func(yield func(T) bool) {
		for _, x := range s.things {
			if !yield(x) {
				return
			}
		}
	}
}
