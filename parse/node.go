package parse

// Node is a part of a tree. The zero one stands for none.
type Node struct{ row *row }

// row isn't changed any more once a node has it, since all nodes that are
// handed out share it.
type row struct {
	op   int
	name string
	typ  string
	n    int
	at   int
	kids []Node
}

func newNode(r row) Node { return Node{&r} }

// get spares the zero Node a case of its own everywhere.
func (n Node) get() row {
	if n.row == nil {
		return row{}
	}
	return *n.row
}

// Op: its op.
func (n Node) Op() int { return n.get().op }

// Name: its name.
func (n Node) Name() string { return n.get().name }

// Type: its type.
func (n Node) Type() string { return n.get().typ }

// N: its number.
func (n Node) N() int { return n.get().n }

// At: its place.
func (n Node) At() int { return n.get().at }

// Kids: how many.
func (n Node) Kids() int { return len(n.get().kids) }

// Kid: one of them; the zero one: there is none.
func (n Node) Kid(i int) Node {
	kids := n.get().kids
	if i < 0 || i >= len(kids) {
		return Node{}
	}
	return kids[i]
}

// Size: how many nodes.
func (n Node) Size() int {
	if n.row == nil {
		return 0
	}
	size := 1
	for _, kid := range n.row.kids {
		size += kid.Size()
	}
	return size
}
