package lex

// stack has a top from its zero value on: that one lies below all that are pushed, and is never popped.
type stack[T any] struct {
	top   T
	below []T
}

// depth is how many were pushed and not popped.
func (k *stack[T]) depth() int {
	return len(k.below)
}

func (k *stack[T]) push(v T) {
	k.below = append(k.below, k.top)
	k.top = v
}

func (k *stack[T]) pop() {
	last := len(k.below) - 1
	k.top = k.below[last]
	k.below = k.below[:last]
}
