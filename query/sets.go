package query

// mostCubed is how many dimensions Cube takes: their choices are just as many as a query may have sets.
const mostCubed = 6

// Rollup is grouping sets: dimensions, then one less from the right, and so on.
func Rollup(dims []int) [][]int {
	sets := make([][]int, 0, len(dims)+1)
	for n := len(dims); n >= 0; n-- {
		// Each set is written anew: pieces of dims would share its memory.
		sets = append(sets, append([]int{}, dims[:n]...))
	}
	return sets
}

// Cube is grouping sets: each choice of dimensions.
func Cube(dims []int) [][]int {
	if len(dims) > mostCubed {
		return nil
	}
	var sets [][]int
	for choice := 1<<len(dims) - 1; choice >= 0; choice-- {
		sets = append(sets, chosen(dims, choice))
	}
	return sets
}

// chosen are the dimensions whose bits are in a choice; the first one's bit is the highest.
func chosen(dims []int, choice int) []int {
	set := []int{}
	for at, dim := range dims {
		if choice>>(len(dims)-1-at)&1 == 1 {
			set = append(set, dim)
		}
	}
	return set
}
