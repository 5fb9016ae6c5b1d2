package ring

import (
	"slices"

	"cartouche/api"
)

// web is the numbers that are left, and the steps between them.
type web struct {
	steps    []api.Step
	numbers  []int         // all that were there at first, rising, each once
	left     map[int]count // of each how many steps lead to it, and out of it, between those that are left
	from, to map[int][]int // by number: the places of the steps that begin and that end there, in order
}

// count is how many steps lead to a number, and out of it.
type count struct{ in, out int }

// weave makes a web of some numbers and of those steps that lead from one of them to one of them.
func weave(numbers []int, l []api.Step) web {
	w := web{steps: l, left: map[int]count{}, from: map[int][]int{}, to: map[int][]int{}}
	w.numbers = slices.Clone(numbers)
	slices.Sort(w.numbers)
	w.numbers = slices.Compact(w.numbers)
	for _, n := range w.numbers {
		w.left[n] = count{}
	}
	for i, s := range l {
		if w.has(s.From) && w.has(s.To) {
			w.more(s.From, count{out: 1})
			w.more(s.To, count{in: 1})
			w.from[s.From] = append(w.from[s.From], i)
			w.to[s.To] = append(w.to[s.To], i)
		}
	}
	return w
}

// ends are all numbers from or to which a step leads.
func ends(l []api.Step) []int {
	var numbers []int
	for _, s := range l {
		numbers = append(numbers, s.From, s.To)
	}
	return numbers
}

// has: is a number left?
func (w web) has(n int) bool {
	_, is := w.left[n]
	return is
}

// more counts steps of a number that is left.
func (w web) more(n int, c count) {
	was := w.left[n]
	w.left[n] = count{in: was.in + c.in, out: was.out + c.out}
}

// take takes a number out of those that are left, and tells, step by step, who else that is left has lost one so.
func (w web) take(n int, lost func(n int)) {
	delete(w.left, n)
	for _, i := range w.from[n] {
		if to := w.steps[i].To; w.has(to) {
			w.more(to, count{in: -1})
			lost(to)
		}
	}
	for _, i := range w.to[n] {
		if from := w.steps[i].From; w.has(from) {
			w.more(from, count{out: -1})
			lost(from)
		}
	}
}

// strip takes those of some numbers that nothing leads to, or out of, and goes on with what they led to or came from: no ring goes through them.
func (w web) strip(numbers []int) {
	rest := slices.Clone(numbers)
	for len(rest) > 0 {
		n := rest[len(rest)-1]
		rest = rest[:len(rest)-1]
		if c := w.left[n]; w.has(n) && (c.in == 0 || c.out == 0) {
			w.take(n, func(beside int) { rest = append(rest, beside) })
		}
	}
}

// shortest tells how many steps the shortest ring through a number has, 0 if there is none; and of each number that is nearer than that how many steps lead there from it, at the fewest. A ring of most steps (0: of any number) or more counts as none.
func (w web) shortest(start, most int) (map[int]int, int) {
	away := map[int]int{}
	var row []int
	reach := func(n, steps int) {
		if _, is := away[n]; !is && w.has(n) {
			away[n] = steps
			row = append(row, n)
		}
	}
	reach(start, 0)
	many := 0
search:
	for i := 0; i < len(row); i++ {
		steps := away[row[i]] + 1
		if steps == most {
			break
		}
		for _, place := range w.to[row[i]] {
			if w.steps[place].From == start {
				many = steps
				break search
			}
			reach(w.steps[place].From, steps)
		}
	}
	return away, many
}

// walk goes back to a number by so many steps, the fewest there are: each time by the first one in the list that comes nearer.
func (w web) walk(start, many int, away map[int]int) []int {
	var places []int
	at := start
	for rest := many - 1; rest >= 0; rest-- {
		next := slices.IndexFunc(w.from[at], func(place int) bool {
			steps, is := away[w.steps[place].To]
			return is && steps == rest
		})
		places = append(places, w.from[at][next])
		at = w.steps[w.from[at][next]].To
	}
	return places
}
