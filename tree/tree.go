// Package tree tells which lists of entries are trees, and goes through trees.
package tree

import (
	"strings"

	"cellar/api"
	"cellar/bounds"
	"cellar/text"
)

// Top stands for the path of the directory that all others are in; no entry has it.
const Top = ""

// Is tells whether a list of entries is a tree; whether its links lead out is not
// looked at.
func Is(entries []api.Entry) bool {
	if !bounds.Within(len(entries), 0, api.MaxEntries) {
		return false
	}
	kinds := map[string]int{}
	for _, entry := range entries {
		if _, twice := kinds[entry.Path]; twice || !isEntry(entry) {
			return false
		}
		kinds[entry.Path] = entry.Kind
	}
	// Only now, as a directory may stand behind what is in it.
	for _, entry := range entries {
		dir, _ := Split(entry.Path)
		if kind, there := kinds[dir]; dir != Top && !(there && kind == api.Dir) {
			return false
		}
	}
	return true
}

// Split parts an entry's path into that of its directory and its name there.
func Split(path string) (dir, name string) {
	slash := strings.LastIndexByte(path, '/')
	if slash < 0 {
		return Top, path
	}
	return path[:slash], path[slash+1:]
}

// Join is the path of what has this name in a directory.
func Join(dir, name string) string {
	if dir == Top {
		return name
	}
	return dir + "/" + name
}

// Depth is how many names a path has.
func Depth(path string) int { return strings.Count(path, "/") + 1 }

func isEntry(entry api.Entry) bool {
	return isPath(entry.Path) && isData(entry.Kind, entry.Data)
}

func isPath(path string) bool {
	// One name more than may be tells that there are too many, however long the rest is.
	names := strings.SplitN(path, "/", api.MaxDepth+1)
	if !bounds.Within(len(names), 1, api.MaxDepth) {
		return false
	}
	for _, name := range names {
		if !text.IsName(name) {
			return false
		}
	}
	return true
}

func isData(kind int, data string) bool {
	switch kind {
	case api.Dir:
		return data == ""
	case api.File, api.Exec:
		return bounds.Within(len(data), 0, api.MaxData)
	case api.Link:
		return text.IsTarget(data)
	}
	return false
}
