package pages

import (
	"silt/api"
	"silt/giveup"
	"silt/squeeze"
	"silt/wire"
)

// What sections hold.
const (
	basementSection = 'b'
	childrenSection = 'p'
	changesSection  = 'm'
)

// The byte that says how a section's content is written.
const (
	asItIs   = 0
	squeezed = 1
)

// maxContent is the length of the longest content, that of a branch with all its changes as long as may be.
const maxContent = 1 + api.MaxChanges*(1+1+api.MaxKey+1+api.MaxValue)

// writeSection tells the section of that kind with that content.
func writeSection(kind byte, content []byte) string {
	how, written := byte(asItIs), string(content)
	if s := squeeze.Squeeze(written); len(s) < len(content) {
		how, written = squeezed, s
	}
	out := wire.AppendNumber([]byte{kind, how}, len(content))
	return string(wire.Seal(wire.AppendText(out, written)))
}

// readSection tells the content of a section, and gives up if it is none of that kind.
func readSection(kind byte, section string) string {
	r := wire.NewReader(section)
	r.Take(1)
	how := r.Byte()
	r.Number()
	size := r.Number()
	// What is too long is refused unread, for squeezing it again could take long.
	giveup.Unless(size <= maxContent)
	content := r.Take(size)
	if how == squeezed {
		content = squeeze.Spread(content)
	}
	// This holds all at once: the kind, how it is written, both lengths, and the check at the end.
	giveup.Unless(writeSection(kind, []byte(content)) == section)
	return content
}
