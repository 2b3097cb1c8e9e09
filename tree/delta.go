package tree

import (
	"bytes"
	"iter"
	"slices"
	"strings"

	"quilter/api"
	"quilter/path"
)

// Apply answers t behind the changes l, one behind the other, or the first error.
func Apply(t api.Tree, l ...api.Delta) (api.Tree, api.Errno) {
	// The list is ours from here on, its bodies only when it is answered: those that go meanwhile need no copy.
	t = slices.Clone(t)
	for _, d := range l {
		e := refusal(t, d)
		if e != api.OK {
			return nil, e
		}
		t = changed(t, d)
	}
	switch {
	case tooLong(t):
		return nil, api.ErrLong
	case !Right(t):
		return nil, api.ErrPath
	}
	return own(t), api.OK
}

// Diff answers the changes that make b of a, by rising paths; nothing, if one of them is not Right.
func Diff(a api.Tree, b api.Tree) []api.Delta {
	if !Right(a) || !Right(b) {
		return nil
	}
	var l []api.Delta
	for x, y := range pairs(a, b) {
		switch {
		case x == nil:
			l = append(l, api.Delta{Kind: api.Add, Path: y.Path, Body: bytes.Clone(y.Body)})
		case y == nil:
			l = append(l, api.Delta{Kind: api.Delete, Path: x.Path})
		case !bytes.Equal(x.Body, y.Body):
			l = append(l, api.Delta{Kind: api.Modify, Path: y.Path, Body: bytes.Clone(y.Body)})
		}
	}
	return l
}

// Same tells whether a and b are the same, file by file.
func Same(a api.Tree, b api.Tree) bool {
	// Neither has to rise for this: where their paths first differ, a file is told alone.
	for x, y := range pairs(a, b) {
		if x == nil || y == nil || !bytes.Equal(x.Body, y.Body) {
			return false
		}
	}
	return true
}

// refusal answers why t can't have the change d; OK, if it can.
func refusal(t api.Tree, d api.Delta) api.Errno {
	known := d.Kind == api.Add || d.Kind == api.Modify || d.Kind == api.Delete
	if !known || !path.Right(d.Path) {
		return api.ErrArg
	}
	switch there := find(t, d.Path) >= 0; {
	case there && d.Kind == api.Add:
		return api.ErrThere
	case !there && d.Kind != api.Add:
		return api.ErrNone
	}
	return api.OK
}

// changed answers a list that is ours behind the change d, in place.
func changed(t api.Tree, d api.Delta) api.Tree {
	if d.Kind == api.Delete {
		return drop(t, d.Path)
	}
	return put(t, api.File{Path: d.Path, Body: d.Body})
}

// pairs tells, by rising paths, the files of a and of b that have one path; nil stands for the one that is not there.
func pairs(a api.Tree, b api.Tree) iter.Seq2[*api.File, *api.File] {
	return func(yield func(*api.File, *api.File) bool) {
		a, b := a, b
		for len(a) > 0 || len(b) > 0 {
			var x, y *api.File
			switch c := heads(a, b); {
			case c == 0:
				y, b = &b[0], b[1:]
				fallthrough
			case c < 0:
				x, a = &a[0], a[1:]
			default:
				y, b = &b[0], b[1:]
			}
			if !yield(x, y) {
				return
			}
		}
	}
}

// heads compares the first paths of a and b, of which at most one is empty: the empty one comes last.
func heads(a api.Tree, b api.Tree) int {
	switch {
	case len(b) == 0:
		return -1
	case len(a) == 0:
		return 1
	}
	return strings.Compare(a[0].Path, b[0].Path)
}
