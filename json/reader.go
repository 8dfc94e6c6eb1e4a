package json

import (
	"strings"

	"cracknel/api"
	"cracknel/dec"
	"cracknel/quote"
)

const (
	blanks = "\t\n\r "
	digits = "0123456789"
	// numeral are the bytes that go with a number: more than dec.Read takes, so that 1.5 is a wrong number, not 1 and something behind it.
	numeral = digits + "+-.Ee"
)

// reader goes through a text from the left, and keeps the items of what it has read.
type reader struct {
	text string
	at   int
	l    []Item
}

// value reads the value that is to begin here. Its own item is it, as far as this is known: the Depth, which is how many arrays and objects are open, and the Key.
func (r *reader) value(it Item) api.Errno {
	r.skip()
	read := r.way()
	return read(it)
}

// way gives the method that reads what begins here.
func (r *reader) way() func(Item) api.Errno {
	switch {
	case r.stands("["):
		return r.array
	case r.stands("{"):
		return r.object
	case r.stands(`"`):
		return r.str
	case r.stands("-" + digits):
		return r.number
	}
	return r.word
}

// array reads one from its opening sign on.
func (r *reader) array(it Item) api.Errno {
	it.Kind = Array
	return r.hold(it, r.value)
}

// object reads one from its opening sign on.
func (r *reader) object(it Item) api.Errno {
	it.Kind = Object
	keys := map[string]bool{}
	return r.hold(it, func(member Item) api.Errno {
		key, err := r.key(keys)
		switch {
		case err != api.OK:
			return err
		case !r.sign(":"):
			return api.ErrJsonForm
		}
		member.Key = key
		return r.value(member)
	})
}

// str reads a text in quotes.
func (r *reader) str(it Item) api.Errno {
	text, err := r.quoted()
	if err != api.OK {
		return err
	}
	it.Kind, it.Text = String, text
	r.l = append(r.l, it)
	return api.OK
}

// number reads all that goes with a number.
func (r *reader) number(it Item) api.Errno {
	rest := r.text[r.at:]
	body := rest[:len(rest)-len(strings.TrimLeft(rest, numeral))]
	n, is := dec.Read(body)
	if !is {
		return api.ErrJsonNumber
	}
	r.at += len(body)
	it.Kind, it.N = Number, n
	r.l = append(r.l, it)
	return api.OK
}

// word reads null, false or true.
func (r *reader) word(it Item) api.Errno {
	for it.Kind = Null; it.Kind <= True; it.Kind++ {
		if w := word(it.Kind); strings.HasPrefix(r.text[r.at:], w) {
			r.at += len(w)
			r.l = append(r.l, it)
			return api.OK
		}
	}
	return api.ErrJsonForm
}

// hold reads an array or object, each of its members by that function.
func (r *reader) hold(it Item, read func(Item) api.Errno) api.Errno {
	if it.Depth == api.MaxDepth {
		return api.ErrJsonDepth
	}
	r.at++
	r.l = append(r.l, it)
	if r.sign(end(it.Kind)) {
		return api.OK
	}
	for {
		if err := read(Item{Depth: it.Depth + 1}); err != api.OK {
			return err
		}
		switch {
		case r.sign(end(it.Kind)):
			return api.OK
		case !r.sign(","):
			return api.ErrJsonForm
		}
	}
}

// key reads the key that is to begin here, and notes it among those of its object.
func (r *reader) key(keys map[string]bool) (string, api.Errno) {
	r.skip()
	if !r.stands(`"`) {
		return "", api.ErrJsonForm
	}
	key, err := r.quoted()
	switch {
	case err != api.OK:
		return "", err
	case keys[key]:
		return "", api.ErrJsonTwice
	}
	keys[key] = true
	return key, api.OK
}

// quoted reads a text in quotes.
func (r *reader) quoted() (string, api.Errno) {
	text, long, err := quote.Read(r.text[r.at:])
	r.at += long
	return text, err
}

// sign reads the sign, if it is the next thing behind blanks.
func (r *reader) sign(sign string) bool {
	r.skip()
	is := r.stands(sign)
	if is {
		r.at++
	}
	return is
}

// stands tells whether one of those bytes stands here.
func (r *reader) stands(those string) bool {
	return r.at < len(r.text) && strings.IndexByte(those, r.text[r.at]) >= 0
}

// skip goes past blanks.
func (r *reader) skip() {
	for r.stands(blanks) {
		r.at++
	}
}
