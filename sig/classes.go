package sig

// classes keeps which places have the same type. Each place links to another one
// of its class, or to itself if it stands for the class.
type classes []int

// add returns a new place, which is in a class of its own.
func (c *classes) add() int {
	place := len(*c)
	*c = append(*c, place)
	return place
}

// find returns the place that stands for the class.
func (c classes) find(place int) int {
	for c[place] != place {
		// Shorter ways, for the next time.
		c[place] = c[c[place]]
		place = c[place]
	}
	return place
}

// unite makes one class of those of a and b.
func (c classes) unite(a, b int) {
	c[c.find(a)] = c.find(b)
}
