package plank

import (
	"strconv"
	"strings"

	"strickle/api"
)

// letters are the letters of the kinds of nodes, in their order.
const letters = ".ptal"

// isNode reports whether a node has a text.
func isNode(n api.Node) bool {
	switch n.Kind {
	case api.NodeWaste:
		return n.At == 0
	case api.NodePlank, api.NodeTurned:
		return n.At >= 0 && n.At < api.MaxKinds
	case api.NodeAcross, api.NodeAlong:
		return n.At >= 1 && n.At < api.MaxBoard
	}
	return false
}

// textOf returns the text of a node.
func textOf(n api.Node) string {
	letter := letters[n.Kind : n.Kind+1]
	if n.Kind == api.NodeWaste {
		return letter
	}
	return letter + strconv.Itoa(n.At)
}

// Write returns the text of nodes: ErrArg for another node, ErrLimit for too many of them.
func Write(p []api.Node) (string, api.Errno) {
	var l []string
	for _, n := range p {
		if !isNode(n) {
			return "", api.ErrArg
		}
		l = append(l, textOf(n))
	}
	if len(l) > api.MaxNodes {
		return "", api.ErrLimit
	}
	return strings.Join(l, " "), api.OK
}

// nodeOf returns the node with a word: one that has no text if there is none.
func nodeOf(word string) api.Node {
	kind := strings.IndexByte(letters, word[0])
	at, _ := strconv.Atoi(word[1:])
	return api.Node{Kind: uint8(kind), At: at}
}

// Read returns the nodes with a text: ErrForm if there are none.
func Read(t string) ([]api.Node, api.Errno) {
	var p []api.Node
	for word := range strings.FieldsSeq(t) {
		p = append(p, nodeOf(word))
	}
	// Nodes have one text: any other way to write them is none.
	if text, e := Write(p); e != api.OK || text != t {
		return nil, api.ErrForm
	}
	return p, api.OK
}
