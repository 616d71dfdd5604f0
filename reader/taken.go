package reader

import "strings"

// taken holds the paths of the headers and the full paths of the pairs that were read.
type taken struct {
	headers []string
	pairs   []string
}

// addHeader takes a header's path, and says whether it may be.
func (t *taken) addHeader(path string) bool {
	for _, header := range t.headers {
		if header == path {
			return false
		}
	}
	for _, pair := range t.pairs {
		if begins(path, pair) {
			return false
		}
	}
	t.headers = append(t.headers, path)
	return true
}

// addPair takes a pair's full path, and says whether it may be.
func (t *taken) addPair(full string) bool {
	for _, pair := range t.pairs {
		if begins(full, pair) || begins(pair, full) {
			return false
		}
	}
	for _, header := range t.headers {
		if begins(header, full) {
			return false
		}
	}
	t.pairs = append(t.pairs, full)
	return true
}

// begins says whether the path is the head, or begins with it, whole names compared.
func begins(path, head string) bool {
	rest, ok := strings.CutPrefix(path, head)
	return ok && (rest == "" || rest[0] == '.')
}
