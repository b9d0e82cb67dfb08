package tree

import "silt/api"

// state is what is known of a key: its value, if it has one.
type state struct {
	value string
	there bool
}

// after tells what becomes of a state by a change.
func (s state) after(c api.Change) state {
	switch c.Kind {
	case api.Delete:
		return state{}
	case api.Append:
		value := s.value + c.Value
		return state{value[max(0, len(value)-api.MaxValue):], true}
	}
	return state{c.Value, true}
}

// appendItem lays the item of a key in this state, if there is one, behind others.
func (s state) appendItem(items []api.Item, key string) []api.Item {
	if !s.there {
		return items
	}
	return append(items, api.Item{Key: key, Value: s.value})
}
