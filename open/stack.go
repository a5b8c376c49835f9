package open

import (
	"slices"

	"colander/api"
)

// Stack is the open elements of a tree.
type Stack struct {
	tree *Tree
	all  []int // the top is the last one
}

// Stack is new open elements: none (O5).
func (t *Tree) Stack() *Stack { return &Stack{tree: t} }

// Push opens a node, at the top (O5).
func (s *Stack) Push(node int) { s.all = append(s.all, node) }

// Pop takes the top (O5).
func (s *Stack) Pop() int {
	top := s.Top()
	if len(s.all) > 0 {
		s.all = s.all[:len(s.all)-1]
	}
	return top
}

// Top is the top; 0: there is none (O5).
func (s *Stack) Top() int {
	if len(s.all) == 0 {
		return 0
	}
	return s.all[len(s.all)-1]
}

// All are all of them, the lowest first (O5).
func (s *Stack) All() []int {
	all := make([]int, len(s.all))
	copy(all, s.all)
	return all
}

// Find is the place of the highest one that is this; -1: none is (O5).
func (s *Stack) Find(node int) int {
	for i := len(s.all) - 1; i >= 0; i-- {
		if s.all[i] == node {
			return i
		}
	}
	return -1
}

// Remove takes the highest one that is this (O5).
func (s *Stack) Remove(node int) {
	if i := s.Find(node); i >= 0 {
		s.all = slices.Delete(s.all, i, i+1)
	}
}

// Swap puts a node for the highest one that is another (O5).
func (s *Stack) Swap(old, node int) {
	if i := s.Find(old); i >= 0 {
		s.all[i] = node
	}
}

// Insert opens a node right above the highest one that is another (O5).
func (s *Stack) Insert(behind, node int) {
	if i := s.Find(behind); i >= 0 {
		s.all = slices.Insert(s.all, i+1, node)
	}
}

// named tells whether it is an element of the page's own with one of the names.
func (s *Stack) named(node int, names ...string) bool {
	if !s.tree.Is(node) {
		return false
	}
	n := &s.tree.nodes[node]
	return n.space == api.SpaceHTML && slices.Contains(names, n.name)
}

// reaches tells whether the search comes to one that is looked for, ahead of one that bounds it.
func (s *Stack) reaches(scope int, found func(node int) bool) bool {
	for i := len(s.all) - 1; i >= 0; i-- {
		node := s.all[i]
		if found(node) {
			return true
		}
		if s.tree.Is(node) && Bounds(scope, s.tree.nodes[node].space, s.tree.nodes[node].name) {
			return false
		}
	}
	return false
}

// Has tells whether one of the names is in scope (O6).
func (s *Stack) Has(scope int, names ...string) bool {
	return s.reaches(scope, func(node int) bool { return s.named(node, names...) })
}

// HasNode tells whether a node is in scope (O6).
func (s *Stack) HasNode(node int) bool {
	return s.reaches(ScopeAny, func(n int) bool { return n == node })
}

// Until closes all up to and with the first one of the names (O6).
func (s *Stack) Until(names ...string) {
	for len(s.all) > 0 {
		if s.named(s.Pop(), names...) {
			return
		}
	}
}

// Clear closes all above the first one of the names (O6).
func (s *Stack) Clear(names ...string) {
	for len(s.all) > 0 && !s.named(s.Top(), names...) {
		s.Pop()
	}
}

// Imply closes what may end without an end tag, but one name (O6).
func (s *Stack) Imply(but string) {
	for s.named(s.Top(), "dd", "dt", "li", "optgroup", "option", "p", "rb", "rp", "rt", "rtc") && !s.named(s.Top(), but) {
		s.Pop()
	}
}
