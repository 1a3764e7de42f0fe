package image

import "berth/api"

// walker is led through a state's pieces in the order in which an image has them: so the form stands once, for who writes it and who reads it. Only a reader puts something into what it is shown.
type walker interface {
	text(*string)
	number(*int)
	truth(*bool)
	size(has int) int // of a list that has so many elements: how many there are to be
}

func state(w walker, s *api.State) {
	w.number(&s.Now)
	w.number(&s.Next)
	list(w, &s.Nodes, node)
	list(w, &s.Bound, bound)
	list(w, &s.Pending, pending)
}

// list takes room for an element only when it comes, as the bytes may end long before the count is reached.
func list[T any](w walker, l *[]T, element func(walker, *T)) {
	for k := range w.size(len(*l)) {
		if k == len(*l) {
			var empty T
			*l = append(*l, empty)
		}
		element(w, &(*l)[k])
	}
}

func node(w walker, n *api.Node) {
	w.text(&n.Name)
	list(w, &n.Labels, label)
	list(w, &n.Taints, taint)
	list(w, &n.Cap, item)
	w.truth(&n.Cordoned)
}

func bound(w walker, b *api.Bound) {
	pod(w, &b.Pod)
	w.text(&b.Node)
}

func pending(w walker, p *api.Pending) {
	pod(w, &p.Pod)
	w.number(&p.Seq)
	w.number(&p.Tries)
	w.number(&p.Until)
	w.truth(&p.Asleep)
}

func pod(w walker, p *api.Pod) {
	w.text(&p.Name)
	list(w, &p.Labels, label)
	list(w, &p.Needs, item)
	list(w, &p.Tolerations, toleration)
	w.text(&p.Require)
	list(w, &p.Apart, apart)
	list(w, &p.Prefer, prefer)
	w.number(&p.Priority)
}

func label(w walker, l *api.Label) {
	w.text(&l.Key)
	w.text(&l.Value)
}

func item(w walker, i *api.Item) {
	w.text(&i.Name)
	w.number(&i.N)
}

func taint(w walker, t *api.Taint) {
	w.text(&t.Key)
	w.text(&t.Value)
	w.text(&t.Effect)
}

func toleration(w walker, t *api.Toleration) {
	w.text(&t.Key)
	w.text(&t.Op)
	w.text(&t.Value)
	w.text(&t.Effect)
}

func apart(w walker, a *api.Apart) {
	w.text(&a.Topo)
	w.text(&a.Select)
}

func prefer(w walker, p *api.Prefer) {
	w.number(&p.Weight)
	w.text(&p.Text)
}
