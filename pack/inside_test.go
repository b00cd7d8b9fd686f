package pack

import (
	"testing"

	"coppice/api"
)

// From outside a reader with an error can't be told from one that went on, so where it stands is looked at here.
func TestAnErrorLeavesTheReaderWhereItWas(t *testing.T) {
	tests := []struct {
		name string
		left string
		call func(r *Reader)
		want api.Errno
	}{
		{"a byte of nothing", "", func(r *Reader) { r.Byte() }, api.ErrShort},
		{"a fixed number cut off", "abcdefg", func(r *Reader) { r.Fixed() }, api.ErrShort},
		{"a short number cut off", "\x80\x81", func(r *Reader) { r.Short() }, api.ErrShort},
		{"a short number with a byte too many", "\x81\x00z", func(r *Reader) { r.Short() }, api.ErrForm},
		{"a tenth byte above 1", "\xff\xff\xff\xff\xff\xff\xff\xff\xff\x02z", func(r *Reader) { r.Short() }, api.ErrForm},
		{"a length cut off", "\x80", func(r *Reader) { r.Text(9) }, api.ErrShort},
		{"a length with a byte too many", "\x82\x00ab", func(r *Reader) { r.Text(9) }, api.ErrForm},
		{"a text longer than most", "\x02ab", func(r *Reader) { r.Text(1) }, api.ErrLong},
		{"a text cut off", "\x03ab", func(r *Reader) { r.Text(3) }, api.ErrShort},
	}
	for _, one := range tests {
		for _, ahead := range []string{"", "x", "xyz"} {
			r := Read(ahead + one.left)
			for range ahead {
				r.Byte()
			}
			one.call(r)
			if r.err != one.want || r.left != one.left {
				t.Errorf("P2.1: %s: error %d, left %q", one.name, r.err, r.left)
			}
			r.Byte()
			r.Fixed()
			r.Short()
			r.Text(99)
			r.End()
			if r.err != one.want || r.left != one.left {
				t.Errorf("P2.1: %s, and further calls: error %d, left %q", one.name, r.err, r.left)
			}
		}
	}
}
