// Package distinct asks of several things whether no two are the same. It is a
// helper of the layers, and none of them itself.
package distinct

// All tells whether no two of several are the same.
func All[T comparable](several []T) bool {
	met := map[T]int{}
	for _, one := range several {
		met[one]++
		if met[one] > 1 {
			return false
		}
	}
	return true
}
