package sheet

import (
	"waywiser/api"
	"waywiser/btree"
	"waywiser/json"
	"waywiser/order"
	"waywiser/path"
)

// idName is the name of the member that is a document's name.
const idName = "_id"

// writing is a document as it is written: its name's key, and its plain text.
type writing struct{ key, text []byte }

// written is that of a document; an error, if it may not be.
func written(doc any) (writing, api.Errno) {
	text, e := json.Print(doc)
	if e != api.OK {
		return writing{}, e
	}
	id, _ := json.Field(doc, idName)
	key, e := nameKey(id)
	if e != api.OK {
		return writing{}, e
	}
	if len(text) > api.MaxText {
		return writing{}, api.ErrLong
	}
	return writing{key, text}, api.OK
}

// nameKey is the key of a name; an error, if it is none.
func nameKey(id any) ([]byte, api.Errno) {
	switch id.(type) {
	case json.Num, string:
	default:
		return nil, api.ErrType
	}
	key, e := order.Key(id)
	switch {
	case e != api.OK:
		return nil, e
	case len(key) > btree.MaxTreeKey:
		return nil, api.ErrLong
	}
	return key, api.OK
}

// rowOf tells the row of the document whose name has that key.
func (s *Sheet) rowOf(key []byte) (int, api.Errno) {
	b, e := s.names.Get(key)
	if e != api.OK {
		return 0, e
	}
	return rowIn(b)
}

// doc tells the document of a row.
func (s *Sheet) doc(row int) (any, api.Errno) {
	text, e := s.texts.Get(highest(uint64(row)))
	if e != api.OK {
		return nil, e
	}
	return parsed(text)
}

// parsed is the document whose plain text that is; ErrForm, if it is none's.
func parsed(text []byte) (any, api.Errno) {
	doc, e := json.Parse(text)
	if e != api.OK {
		return nil, api.ErrForm
	}
	return doc, api.OK
}

// insert gives a document that is not there a row.
func (s *Sheet) insert(w writing, doc any) api.Errno {
	row := s.last + 1
	if e := s.move(row, nil, doc); e != api.OK {
		return e
	}
	if e := s.texts.Put(highest(uint64(row)), w.text); e != api.OK {
		return e
	}
	if e := s.names.Put(w.key, highest(uint64(row))); e != api.OK {
		return e
	}
	s.last = row
	s.count++
	return api.OK
}

// replace lets a row have another document of the same name.
func (s *Sheet) replace(row int, w writing, doc any) api.Errno {
	old, e := s.doc(row)
	if e != api.OK {
		return e
	}
	if e := s.move(row, old, doc); e != api.OK {
		return e
	}
	return s.texts.Put(highest(uint64(row)), w.text)
}

// drop takes the document of a row away, whose name has that key.
func (s *Sheet) drop(row int, key []byte) api.Errno {
	old, e := s.doc(row)
	if e != api.OK {
		return e
	}
	if e := s.move(row, old, nil); e != api.OK {
		return e
	}
	if e := s.texts.Drop(highest(uint64(row))); e != api.OK {
		return e
	}
	if e := s.names.Drop(key); e != api.OK {
		return e
	}
	s.count--
	return api.OK
}

// placed is an index: which one, and what it keeps.
type placed struct {
	Spec
	kept kept
}

// move lets a document stand in all indexes in the place of an old one of its row; nil, of which no path leads anywhere, is none.
func (s *Sheet) move(row int, old, doc any) api.Errno {
	for _, x := range s.indexes {
		was, stood := path.Get(old, x.Path)
		is, stands := path.Get(doc, x.Path)
		if stood && stands && json.Same(was, is) {
			continue
		}
		if stood {
			if e := x.kept.drop(row, was); e != api.OK {
				return e
			}
		}
		if stands {
			if e := x.kept.put(row, is); e != api.OK {
				return e
			}
		}
	}
	return api.OK
}

// standing is what a document has somewhere, and its row.
type standing struct {
	row   int
	value any
}

// standings are those of all documents in which a path leads anywhere.
func (s *Sheet) standings(p string) ([]standing, api.Errno) {
	var l []standing
	for x, e := range entries(s.texts) {
		if e != api.OK {
			return nil, e
		}
		row, e := rowIn(x.key)
		if e != api.OK {
			return nil, e
		}
		doc, e := parsed(x.value)
		if e != api.OK {
			return nil, e
		}
		if v, leads := path.Get(doc, p); leads {
			l = append(l, standing{row, v})
		}
	}
	return l, api.OK
}

// addIndex adds an index. All documents are read ahead of the first change: a disk that is down lets nothing be done by halves.
func (s *Sheet) addIndex(x Spec) api.Errno {
	l, e := s.standings(x.Path)
	if e != api.OK {
		return e
	}
	k, e := kinds()[x.Kind].fresh(s.pool)
	if e != api.OK {
		return e
	}
	for _, y := range l {
		if e := k.put(y.row, y.value); e != api.OK {
			return e
		}
	}
	s.indexes = append(s.indexes, placed{x, k})
	return api.OK
}
