package index

import "tachograph/api"

// keys is those that have a label.
type keys map[string]struct{}

// values is the keys by the value of a label of one name: none of them empty.
type values map[string]keys

// names is the keys by a label's name: none of them empty, so that nothing stays of a name that no key has any more.
type names map[string]values

// put lays in a key with a label.
func (n names) put(l api.Label, key string) {
	if n[l.Name] == nil {
		n[l.Name] = values{}
	}
	n[l.Name].put(l.Value, key)
}

// take takes a key with a label out.
func (n names) take(l api.Label, key string) {
	v := n[l.Name]
	v.take(l.Value, key)
	if len(v) == 0 {
		delete(n, l.Name)
	}
}

// put lays in a key with a value.
func (v values) put(value, key string) {
	if v[value] == nil {
		v[value] = keys{}
	}
	v[value][key] = struct{}{}
}

// take takes a key with a value out.
func (v values) take(value, key string) {
	k := v[value]
	delete(k, key)
	if len(k) == 0 {
		delete(v, value)
	}
}
