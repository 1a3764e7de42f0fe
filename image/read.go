package image

import "berth/api"

// reader goes through the bytes from the first on and never back: so the first fault that it meets is the one that is told.
type reader struct {
	bytes []byte  // those ahead of the sum
	next  int     // the place of the byte that is looked at
	texts []entry // the table
}

// entry is a text of the table.
type entry struct {
	text string
	at   int // where its count of bytes begins
	used bool
}

// giveUp is caught by Decode: whoever calls it does not go on.
func giveUp(code api.Errno, at int) {
	panic(&api.Fault{Code: code, At: at})
}

// whole reads all from the table on.
func (r *reader) whole() api.State {
	var s api.State
	r.table()
	state(r, &s)
	if r.next < len(r.bytes) {
		giveUp(api.ErrImageTail, r.next)
	}
	for _, e := range r.texts {
		if !e.used {
			giveUp(api.ErrImageForm, e.at)
		}
	}
	return s
}

func (r *reader) table() {
	for k := range r.size(0) {
		at := r.next
		size := r.size(0)
		r.next += size
		text := string(r.bytes[r.next-size : r.next])
		if k > 0 && r.texts[k-1].text >= text {
			giveUp(api.ErrImageForm, at)
		}
		r.texts = append(r.texts, entry{text: text, at: at})
	}
}

func (r *reader) text(t *string) {
	at := r.next
	place := r.count()
	if place >= uint64(len(r.texts)) {
		giveUp(api.ErrImageForm, at)
	}
	r.texts[place].used = true
	*t = r.texts[place].text
}

// number takes the even counts for numbers from 0 on, the odd ones for those below; halved, all are within an int.
func (r *reader) number(n *int) {
	count := r.count()
	*n = int(count >> 1)
	if count%2 == 1 {
		*n = -*n - 1
	}
}

func (r *reader) truth(t *bool) {
	b := r.take()
	if b > 1 {
		giveUp(api.ErrImageForm, r.next-1)
	}
	*t = b == 1
}

// size is a count of things that have a byte each at least, whatever they are: more of them than bytes are left there can't be.
func (r *reader) size(int) int {
	at := r.next
	n := r.count()
	if n > uint64(len(r.bytes)-r.next) {
		giveUp(api.ErrImageCut, at)
	}
	return int(n)
}

func (r *reader) count() uint64 {
	at := r.next
	var n uint64
	for shift := 0; ; shift += 7 {
		group := r.take()
		if shift == 63 && group > 1 || shift > 0 && group == 0 {
			giveUp(api.ErrImageForm, at)
		}
		n |= uint64(group&127) << shift
		if group < 128 {
			return n
		}
	}
}

// take is the byte that is looked at; the next one is looked at from now on.
func (r *reader) take() byte {
	if r.next == len(r.bytes) {
		giveUp(api.ErrImageCut, r.next)
	}
	r.next++
	return r.bytes[r.next-1]
}
