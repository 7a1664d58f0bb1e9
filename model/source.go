package model

import (
	"tiller/api"
)

// The bounds of made numbers. Gains lie around 1, all others around 0.
const (
	embedBound  = 131072
	matrixBound = 65536
	gainBound   = 16384
)

// source makes numbers one by one, all of them from its first state.
type source struct {
	state uint64
}

// next: the next number, from -bound on, below bound.
func (s *source) next(bound uint64) api.Num {
	s.state += 0x9e3779b97f4a7c15
	x := s.state
	x = (x ^ x>>30) * 0xbf58476d1ce4e5b9
	x = (x ^ x>>27) * 0x94d049bb133111eb
	x ^= x >> 31
	return api.Num(int64((x>>32)*(2*bound)>>32) - int64(bound)) // 32 bits by at most 19: it doesn't overflow
}

// matrix: a matrix of made numbers.
func (s *source) matrix(rows, cols int, bound uint64) api.Mat {
	data := make([]api.Num, rows*cols)
	for i := range data {
		data[i] = s.next(bound)
	}
	return api.Mat{Rows: rows, Cols: cols, Data: data}
}

// gains: a row of made numbers around 1.
func (s *source) gains(n int) []api.Num {
	row := make([]api.Num, n)
	for i := range row {
		row[i] = api.One + s.next(gainBound)
	}
	return row
}

// block: one layer's made numbers.
func (s *source) block(c api.Config) Block {
	var b Block
	b.First = s.gains(c.Dim)
	b.Q = s.matrix(c.Dim, c.Dim, matrixBound)
	b.K = s.matrix(c.Dim, c.Dim, matrixBound)
	b.V = s.matrix(c.Dim, c.Dim, matrixBound)
	b.O = s.matrix(c.Dim, c.Dim, matrixBound)
	b.Second = s.gains(c.Dim)
	b.Up = s.matrix(c.Hidden, c.Dim, matrixBound)
	b.Down = s.matrix(c.Dim, c.Hidden, matrixBound)
	return b
}
