// Package ref is layer 1: see shared/doc/01-ref.md.
package ref

// greatest is the greatest node that there may be a reference of.
const greatest = 1<<31 - 1

// Where in a reference's parts its node and its mark stand: the node comes first, because join makes room behind each part for the next one.
const (
	nodePart = 0
	markPart = 1
)

// parts are what a reference is made of: its node, and 1, if it is marked, else 0.
type parts [2]uint64

func split(w uint64) parts {
	return parts{nodePart: w / 2, markPart: w % 2}
}

func join(p parts) uint64 {
	w := uint64(0)
	add := func(part uint64) { w = 2*w + part }
	for _, part := range p {
		add(part)
	}
	return w
}

// Pack is a reference of a node, marked or not; Index is the node of one, Marked whether it is; Mark is it, marked.
func Pack(node int, mark bool) uint64 {
	if node < 0 || node > greatest {
		return 0
	}
	p := parts{nodePart: uint64(node)}
	if mark {
		p[markPart] = 1
	}
	return join(p)
}

func Index(w uint64) int {
	return int(split(w)[nodePart])
}

func Marked(w uint64) bool {
	return split(w)[markPart] == 1
}

func Mark(w uint64) uint64 {
	p := split(w)
	p[markPart] = 1
	return join(p)
}
