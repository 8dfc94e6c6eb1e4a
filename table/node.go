package table

// The sides of a node.
const (
	ahead  = 0
	behind = 1
)

// steep is how many times as heavy as the other one a side may be, and bent how many times as heavy as its outer side
// the inner one of a side that is too heavy may be to be lifted alone. By these two numbers one lift, or two, make
// even what one Put or one Drop has made uneven.
const (
	steep = 3
	bent  = 2
)

// node is a key and its value, between the keys that come ahead of it and those that come behind it. None is ever
// changed, so tables share what they have in common; no node at all is nil.
type node[K Key[K], V any] struct {
	key   K
	value V
	sides [2]*node[K, V]
	count int
}

// side tells on which side of a key another one is, by the other one's Cmp with it.
func side(by int) int {
	if by < 0 {
		return ahead
	}
	return behind
}

func (n *node[K, V]) len() int {
	if n == nil {
		return 0
	}
	return n.count
}

// weight is above 0 even of no node, so that times as heavy means something there too.
func (n *node[K, V]) weight() int { return n.len() + 1 }

func (n *node[K, V]) find(k K) *node[K, V] {
	for n != nil {
		by := k.Cmp(n.key)
		if by == 0 {
			break
		}
		n = n.sides[side(by)]
	}
	return n
}

// all tells whether yield has told true each time.
func (n *node[K, V]) all(yield func(k K, v V) bool) bool {
	return n == nil || n.sides[ahead].all(yield) && yield(n.key, n.value) && n.sides[behind].all(yield)
}

func (n *node[K, V]) put(k K, v V) *node[K, V] {
	if n == nil {
		return &node[K, V]{key: k, value: v, count: 1}
	}
	by := k.Cmp(n.key)
	if by == 0 {
		return n.having(k, v)
	}
	return n.with(side(by), n.sides[side(by)].put(k, v)).even()
}

// drop is n without k, and n itself if it has not k.
func (n *node[K, V]) drop(k K) (*node[K, V], bool) {
	if n == nil {
		return nil, false
	}
	by := k.Cmp(n.key)
	if by == 0 {
		return n.rest(), true
	}
	left, had := n.sides[side(by)].drop(k)
	if !had {
		return n, false
	}
	return n.with(side(by), left).even(), true
}

// rest is n without its own key: the next one behind takes its place.
func (n *node[K, V]) rest() *node[K, V] {
	if n.sides[behind] == nil {
		return n.sides[ahead]
	}
	next, others := n.sides[behind].shift()
	return n.having(next.key, next.value).with(behind, others).even()
}

// shift is the node of n's first key, and n without that key.
func (n *node[K, V]) shift() (first, others *node[K, V]) {
	if n.sides[ahead] == nil {
		return n, n.sides[behind]
	}
	first, others = n.sides[ahead].shift()
	return first, n.with(ahead, others).even()
}

// having is n with that key and value in place of its own.
func (n *node[K, V]) having(k K, v V) *node[K, V] {
	other := *n
	other.key, other.value = k, v
	return &other
}

// with is n with s at that side.
func (n *node[K, V]) with(at int, s *node[K, V]) *node[K, V] {
	other := *n
	other.sides[at] = s
	other.count = other.sides[ahead].len() + 1 + other.sides[behind].len()
	return &other
}

// even is n with neither side too heavy for the other one: else each Put would go further down than the one before it.
func (n *node[K, V]) even() *node[K, V] {
	for at, s := range n.sides {
		if s.weight() <= steep*n.sides[1-at].weight() {
			continue
		}
		if s.sides[1-at].weight() >= bent*s.sides[at].weight() {
			s = s.lift(1 - at)
		}
		return n.with(at, s).lift(at)
	}
	return n
}

// lift is n with the node at that side in its place, and n below that one.
func (n *node[K, V]) lift(at int) *node[K, V] {
	s := n.sides[at]
	return s.with(1-at, n.with(at, s.sides[1-at]))
}
