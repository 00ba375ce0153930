// Package cell: words that all machines see (chapter 1).
package cell

import (
	"slices"
)

// most is how many words a memory has at most.
const most = 1 << 16

// Memory is words, and how often they were asked.
type Memory struct {
	words []uint64
	count int
}

// New: words of 0.
func New(n int) *Memory {
	return &Memory{words: make([]uint64, min(max(n, 0), most))}
}

// Len: how many.
func (m *Memory) Len() int {
	if m == nil {
		return 0
	}
	return len(m.words)
}

// access counts one, if there is such a word.
func (m *Memory) access(i int) bool {
	if i < 0 || i >= m.Len() {
		return false
	}
	m.count++
	return true
}

// Load: a word.
func (m *Memory) Load(i int) uint64 {
	if !m.access(i) {
		return 0
	}
	return m.words[i]
}

// Store: another one.
func (m *Memory) Store(i int, x uint64) bool {
	if !m.access(i) {
		return false
	}
	m.words[i] = x
	return true
}

// Swap: another one, if it is as is told.
func (m *Memory) Swap(i int, old, next uint64) bool {
	if !m.access(i) || m.words[i] != old {
		return false
	}
	m.words[i] = next
	return true
}

// Add: so much more.
func (m *Memory) Add(i int, d int64) uint64 {
	if !m.access(i) {
		return 0
	}
	m.words[i] += uint64(d)
	return m.words[i]
}

// Count: how many accesses.
func (m *Memory) Count() int {
	if m == nil {
		return 0
	}
	return m.count
}

// Copy: a memory apart.
func (m *Memory) Copy() *Memory {
	if m == nil {
		return nil
	}
	return &Memory{words: slices.Clone(m.words), count: m.count}
}

// Same: the same words?
func (m *Memory) Same(x *Memory) bool {
	if m.Len() != x.Len() {
		return false
	}
	return m.Len() == 0 || slices.Equal(m.words, x.words)
}
