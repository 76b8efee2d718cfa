// Package bounds tells whether numbers stand between the bounds that the document names.
package bounds

// Within tells whether n is one of low to high, both of them too.
func Within(n, low, high int) bool {
	return n == max(low, min(n, high))
}
