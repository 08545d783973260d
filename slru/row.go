package slru

// node is a key's place: it knows its row and its neighbours there, so that it is taken out without a search.
type node struct {
	key           string
	in            *row
	ahead, behind *node
}

// row is nodes, in the order in which they came there.
type row struct {
	first, last *node
	many        int
}

// putLast puts a node that is in no row.
func (r *row) putLast(n *node) {
	n.in, n.ahead, n.behind = r, r.last, nil
	if r.last == nil {
		r.first = n
	} else {
		r.last.behind = n
	}
	r.last = n
	r.many++
}

// takeOut takes out a node of this row.
func (r *row) takeOut(n *node) {
	if n.ahead == nil {
		r.first = n.behind
	} else {
		n.ahead.behind = n.behind
	}
	if n.behind == nil {
		r.last = n.ahead
	} else {
		n.behind.ahead = n.ahead
	}
	r.many--
}

// moveTo takes a node out of its row and puts it last of another one, or of the same.
func (n *node) moveTo(r *row) {
	n.in.takeOut(n)
	r.putLast(n)
}
