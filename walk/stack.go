package walk

import (
	"plainsong/api"
	"plainsong/opcode"
)

// unknown stands for any type: that of a value which dead code takes from below the height of its frame.
const unknown = 0

// frame is a block, loop or if without its end so far, or the function.
type frame struct {
	op     int // what began it: for an if with an else, that; for the function, a block
	kind   api.Type
	height int // how many types lie below it
	dead   bool
}

// stacks are the one of types and the one of frames, the top of each behind the others.
type stacks struct {
	types  []int
	frames []frame
}

func (s *stacks) top() *frame {
	return &s.frames[len(s.frames)-1]
}

// label returns the types that a branch to the label n takes.
func (s *stacks) label(n int) []int {
	f := s.frames[len(s.frames)-1-n]
	if f.op == opcode.Loop {
		return f.kind.Params
	}
	return f.kind.Results
}

// begin puts a frame on the others. Its parameters have been taken, and it gives them to itself.
func (s *stacks) begin(op int, kind api.Type) {
	s.frames = append(s.frames, frame{op: op, kind: kind, height: len(s.types)})
	s.give(kind.Params)
}

// finish takes the results of the innermost frame and the frame, and reports whether they are what is left in it.
func (s *stacks) finish() (frame, bool) {
	f := *s.top()
	if !s.take(f.kind.Results...) || len(s.types) > f.height {
		return frame{}, false
	}
	s.frames = s.frames[:len(s.frames)-1]
	return f, true
}

// leave takes types for a place outside, and makes the innermost frame dead: nothing that follows in it is reached.
func (s *stacks) leave(types []int) bool {
	if !s.take(types...) {
		return false
	}
	f := s.top()
	f.dead = true
	s.types = s.types[:f.height]
	return true
}

// holds reports whether these types, the last of them on top, are in the innermost frame.
func (s *stacks) holds(types []int) bool {
	f := s.top()
	for k, want := range types {
		at := len(s.types) - len(types) + k
		switch {
		case at < f.height && !f.dead:
			return false
		case at >= f.height && !agree(s.types[at], want):
			return false
		}
	}
	return true
}

// take takes types off the stack, if it holds them.
func (s *stacks) take(types ...int) bool {
	if !s.holds(types) {
		return false
	}
	s.types = s.types[:max(len(s.types)-len(types), s.top().height)]
	return true
}

// pop takes a value of any type off the stack, if there is one.
func (s *stacks) pop() (int, bool) {
	f, last := s.top(), len(s.types)-1
	if last < f.height {
		return unknown, f.dead
	}
	t := s.types[last]
	s.types = s.types[:last]
	return t, true
}

func (s *stacks) give(types []int) {
	s.types = append(s.types, types...)
}

// agree reports whether a value whose type is t, as far as that is known, may be taken as one of type want.
func agree(t, want int) bool {
	return t == want || t == unknown
}
