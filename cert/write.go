package cert

import (
	"strings"

	"cartouche/api"
	"cartouche/event"
	"cartouche/lump"
)

// writer lays the bytes of a certificate that may be: so no text of it is too long, and no number is below 0.
type writer struct{ strings.Builder }

func (w *writer) cert(c api.Cert) {
	w.text(c.Tenant)
	w.nums(c.Seq)
	w.text(c.Prev)
	w.text(c.Root)
	w.nums(c.Count)
	w.verdict(c.V)
	w.nums(len(c.Proofs))
	for _, p := range c.Proofs {
		w.proof(p)
	}
}

func (w *writer) verdict(v api.Verdict) {
	accept := 0
	if v.Accept {
		accept = 1
	}
	w.nums(v.Level, accept, len(v.Order))
	w.nums(v.Order...)
	w.nums(v.Bad.Kind, v.Bad.I, v.Bad.J, len(v.Ring))
	for _, e := range v.Ring {
		w.nums(e.Kind, e.From, e.To, e.I, e.J)
	}
}

func (w *writer) proof(p api.Proof) {
	w.nums(p.I)
	x, _ := event.Bytes(p.Event)
	w.text(x)
	row, _ := lump.Row(p.Path)
	w.WriteString(row)
}

func (w *writer) nums(l ...int) {
	for _, n := range l {
		w.WriteString(lump.Num(uint64(n)))
	}
}

func (w *writer) text(t string) {
	s, _ := lump.Text(t)
	w.WriteString(s)
}
