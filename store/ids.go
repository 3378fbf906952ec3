package store

// ids is a heap (container/heap): the least is at hand.
type ids []int

func (s ids) Len() int           { return len(s) }
func (s ids) Less(i, j int) bool { return s[i] < s[j] }
func (s ids) Swap(i, j int)      { s[i], s[j] = s[j], s[i] }

func (s *ids) Push(x any) { *s = append(*s, x.(int)) }

func (s *ids) Pop() any {
	last := len(*s) - 1
	x := (*s)[last]
	*s = (*s)[:last]
	return x
}
