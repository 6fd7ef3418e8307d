package group

// hunt looks for the first thing that fits, of things that are numbered from 0 on.
type hunt[T any] struct {
	at   func(i int) T
	fits func(x T) bool
}

// first looks at no more than most of them.
func (h hunt[T]) first(most int) (T, bool) {
	i := 0
next:
	if i >= most {
		var none T
		return none, false
	}
	if x := h.at(i); h.fits(x) {
		return x, true
	}
	i++
	goto next
}
