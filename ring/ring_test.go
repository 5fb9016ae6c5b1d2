package ring

import (
	"math"
	"math/rand"
	"slices"
	"sort"
	"testing"

	"cartouche/api"
)

func step(from, to int) api.Step { return api.Step{From: from, To: to} }

// marked are steps that tell by their edges where they stood in the list: so two of one From and To can be told apart.
func marked(l []api.Step) []api.Step {
	l = slices.Clone(l)
	for i := range l {
		l[i].E = []api.Edge{{Kind: api.GWrite, From: l[i].From, To: l[i].To, I: i}, {Kind: api.GOver, J: i}}
	}
	return l
}

// pairs are the steps of numbers that stand in twos.
func pairs(numbers ...int) []api.Step {
	var l []api.Step
	for i := 0; i+1 < len(numbers); i += 2 {
		l = append(l, step(numbers[i], numbers[i+1]))
	}
	return marked(l)
}

func sameSteps(a, b []api.Step) bool {
	return slices.EqualFunc(a, b, func(x, y api.Step) bool {
		return x.From == y.From && x.To == y.To && slices.Equal(x.E, y.E)
	})
}

// copied shares no memory with what it is a copy of.
func copied(l []api.Step) []api.Step {
	l = slices.Clone(l)
	for i := range l {
		l[i].E = slices.Clone(l[i].E)
	}
	return l
}

// chosen are the steps at some places.
func chosen(l []api.Step, places []int) []api.Step {
	var out []api.Step
	for _, i := range places {
		out = append(out, l[i])
	}
	return out
}

// allNumbers are the nodes of some steps, rising, each once.
func allNumbers(l []api.Step) []int {
	var out []int
	for _, s := range l {
		for _, n := range []int{s.From, s.To} {
			if !slices.Contains(out, n) {
				out = append(out, n)
			}
		}
	}
	sort.Ints(out)
	return out
}

// plainOrder is P11.1 by its words.
func plainOrder(nodes []int, l []api.Step) ([]int, bool) {
	left := slices.Clone(nodes)
	var order []int
	for len(left) > 0 {
		least, there := 0, false
		for _, n := range left {
			free := true
			for _, s := range l {
				free = free && !(s.To == n && slices.Contains(left, s.From))
			}
			if free && (!there || n < least) {
				least, there = n, true
			}
		}
		if !there {
			return nil, false
		}
		order = append(order, least)
		left = slices.DeleteFunc(left, func(n int) bool { return n == least })
	}
	return order, true
}

// plainForward is P11.1 by its words.
func plainForward(order []int, l []api.Step) bool {
	for i, x := range order {
		for j, y := range order {
			if i != j && x == y {
				return false
			}
			for _, s := range l {
				if s.From == x && s.To == y && j <= i {
					return false
				}
			}
		}
	}
	return true
}

// plainClosed is P11.2 by its words.
func plainClosed(l []api.Step) bool {
	for i := range l {
		if l[(i+1)%len(l)].From != l[i].To {
			return false
		}
	}
	return len(l) > 0
}

// plainRing is P11.2 by its words: rings of one step, of two, and so on, from each number, rising; step by step the first one in the list first.
func plainRing(l []api.Step) ([]int, bool) {
	numbers := allNumbers(l)
	for many := 1; many <= len(l); many++ {
		for _, start := range numbers {
			var places []int
			var longer func(at int) bool
			longer = func(at int) bool {
				if len(places) == many {
					return at == start
				}
				for i, s := range l {
					if s.From == at {
						places = append(places, i)
						if longer(s.To) {
							return true
						}
						places = places[:len(places)-1]
					}
				}
				return false
			}
			if longer(start) {
				return places, true
			}
		}
	}
	return nil, false
}

// everyRing finds the same by going through all rows of places, up to so many, and taking the best that is a ring.
func everyRing(l []api.Step, most int) ([]int, bool) {
	var best, row []int
	better := func(a, b []int) bool {
		switch {
		case len(b) == 0 || len(a) != len(b):
			return len(b) == 0 || len(a) < len(b)
		case l[a[0]].From != l[b[0]].From:
			return l[a[0]].From < l[b[0]].From
		}
		return slices.Compare(a, b) < 0
	}
	var longer func()
	longer = func() {
		if plainClosed(chosen(l, row)) && better(row, best) {
			best = slices.Clone(row)
		}
		if len(row) == most {
			return
		}
		for i := range l {
			row = append(row, i)
			longer()
			row = row[:len(row)-1]
		}
	}
	longer()
	return best, len(best) > 0
}

// seen counts what the tests went through, so that none of them says nothing.
type seen struct{ orders, partial, none, rings, noRings, forward, back int }

func (s seen) often(t *testing.T, least int) {
	t.Helper()
	for _, n := range []int{s.orders, s.partial, s.none, s.rings, s.noRings, s.forward, s.back} {
		if n < least {
			t.Errorf("too seldom: %+v", s)
			return
		}
	}
}

// ringHeld holds Ring of some steps against places of these, and P11.3.
func ringHeld(t *testing.T, l []api.Step, want []int, is bool, s *seen) {
	t.Helper()
	ring, got := Ring(l)
	if got != is || !sameSteps(ring, chosen(l, want)) {
		t.Fatalf("Ring of %v: %v, %t, want the places %v", l, ring, got, want)
	}
	if is {
		s.rings++
	} else {
		s.noRings++
	}
	if Closed(ring) != is {
		t.Fatalf("Ring of %v: %v is closed: %t", l, ring, !is)
	}
	order, there := Order(allNumbers(l), l)
	if there == is {
		t.Fatalf("%v: a ring: %t, an order: %t", l, is, there)
	}
	if there && (len(order) != len(allNumbers(l)) || !Forward(order, l)) {
		t.Fatalf("Order of all nodes of %v: %v", l, order)
	}
}

// orderHeld holds Order of some nodes against the document's words, and P11.3.
func orderHeld(t *testing.T, nodes []int, l []api.Step, s *seen) {
	t.Helper()
	want, is := plainOrder(nodes, l)
	order, got := Order(nodes, l)
	if got != is || !slices.Equal(order, want) {
		t.Fatalf("Order of %v, %v: %v, %t, want %v, %t", nodes, l, order, got, want, is)
	}
	if !is {
		s.none++
		return
	}
	s.orders++
	if _, all := plainOrder(allNumbers(l), l); !all {
		s.partial++
	}
	if !Forward(order, l) {
		t.Fatalf("Order of %v, %v: %v isn't forward", nodes, l, order)
	}
}

// forwardHeld holds Forward against the document's words.
func forwardHeld(t *testing.T, order []int, l []api.Step, s *seen) {
	t.Helper()
	want := plainForward(order, l)
	if is := Forward(order, l); is != want {
		t.Fatalf("Forward of %v, %v: %t", order, l, is)
	}
	if want {
		s.forward++
	} else {
		s.back++
	}
}

// rows calls do with each row of at most so many of the things.
func rows[T any](things []T, most int, do func(row []T)) {
	row := make([]T, 0, most)
	var longer func()
	longer = func() {
		do(row)
		if len(row) == most {
			return
		}
		for _, x := range things {
			row = append(row, x)
			longer()
			row = row[:len(row)-1]
		}
	}
	longer()
}

// P11.1: the least that is free comes next, each time.
func TestOrder(t *testing.T) {
	for _, c := range []struct {
		what  string
		nodes []int
		l     []api.Step
		want  []int
		is    bool
	}{
		{"nothing", nil, nil, nil, true},
		{"no nodes, and a ring elsewhere", []int{}, pairs(1, 2, 2, 1), nil, true},
		{"the example", []int{1, 2}, pairs(1, 2), []int{1, 2}, true},
		{"the example's ring", []int{1, 2}, pairs(1, 2, 2, 1), nil, false},
		{"no steps: rising", []int{3, 10, -1, 2}, nil, []int{-1, 2, 3, 10}, true},
		{"a number counts once", []int{2, 1, 2, 2, 1}, nil, []int{1, 2}, true},
		{"a number counts once, with steps", []int{2, 1, 2, 2, 1}, pairs(2, 1, 2, 1), []int{2, 1}, true},
		{"back", []int{1, 2, 3}, pairs(3, 2, 2, 1), []int{3, 2, 1}, true},
		{"a lesser one comes free, and goes ahead of those that were", []int{1, 2, 3, 4}, pairs(2, 1), []int{2, 1, 3, 4}, true},
		{"a greater one comes free, and waits", []int{1, 2, 3, 4}, pairs(1, 4), []int{1, 2, 3, 4}, true},
		{"the least first, not the one that was free first", []int{1, 2, 3, 4, 5}, pairs(5, 1, 3, 2), []int{3, 2, 4, 5, 1}, true},
		{"two steps into one: behind both", []int{1, 2, 3}, pairs(2, 1, 3, 1), []int{2, 3, 1}, true},
		{"one step twice", []int{1, 2, 3}, pairs(3, 1, 3, 1, 3, 2), []int{3, 1, 2}, true},
		{"a diamond", []int{1, 2, 3, 4}, pairs(4, 2, 4, 3, 2, 1, 3, 1), []int{4, 2, 3, 1}, true},
		{"to itself", []int{1, 2}, pairs(1, 1), nil, false},
		{"to itself, elsewhere", []int{1, 2}, pairs(3, 3), []int{1, 2}, true},
		{"a step from elsewhere", []int{1, 2}, pairs(3, 1, 2, 1), []int{2, 1}, true},
		{"a step to elsewhere", []int{1, 2}, pairs(1, 3, 2, 3), []int{1, 2}, true},
		{"a way through elsewhere doesn't lead", []int{1, 2}, pairs(2, 3, 3, 1), []int{1, 2}, true},
		{"a ring through elsewhere is none", []int{1, 2}, pairs(1, 2, 2, 3, 3, 1), []int{1, 2}, true},
		{"what was told ahead of a ring isn't told", []int{0, 1, 2, 3}, pairs(1, 2, 2, 1), nil, false},
		{"what stands behind a ring", []int{1, 2, 3}, pairs(1, 2, 2, 1, 2, 3), nil, false},
		{"what stands ahead of a ring", []int{1, 2, 3}, pairs(1, 2, 2, 3, 3, 2), nil, false},
		{"by size, not by figures or as unsigned", []int{10, 9, math.MinInt, math.MaxInt, -1, 0}, nil, []int{math.MinInt, -1, 0, 9, 10, math.MaxInt}, true},
		{"the greatest ahead of the smallest", []int{math.MinInt, math.MaxInt}, pairs(math.MaxInt, math.MinInt), []int{math.MaxInt, math.MinInt}, true},
		{"numbers that differ above 32 bits", []int{1, 1 + 1<<32}, pairs(1+1<<32, 1), []int{1 + 1<<32, 1}, true},
	} {
		order, is := Order(c.nodes, c.l)
		if is != c.is || !slices.Equal(order, c.want) {
			t.Errorf("%s: %v, %t", c.what, order, is)
		}
		orderHeld(t, c.nodes, c.l, &seen{})
	}
}

// P11.1: each once, and each step to one behind.
func TestForward(t *testing.T) {
	for _, c := range []struct {
		what  string
		order []int
		l     []api.Step
		want  bool
	}{
		{"nothing", nil, nil, true},
		{"none, and a ring elsewhere", nil, pairs(1, 2, 2, 1), true},
		{"no steps", []int{3, 1, 2}, nil, true},
		{"forward", []int{3, 1, 2}, pairs(3, 1, 1, 2, 3, 2), true},
		{"back", []int{3, 1, 2}, pairs(1, 3), false},
		{"back by two", []int{3, 1, 2}, pairs(2, 3), false},
		{"the last one goes back", []int{1, 2, 3}, pairs(1, 2, 2, 3, 3, 1), false},
		{"the first one goes back", []int{1, 2, 3}, pairs(2, 1, 1, 3, 2, 3), false},
		{"to itself", []int{1, 2}, pairs(1, 1), false},
		{"to itself, the last one", []int{1, 2}, pairs(2, 2), false},
		{"to itself, elsewhere", []int{1, 2}, pairs(3, 3), true},
		{"from elsewhere", []int{1, 2}, pairs(3, 1, 0, 2), true},
		{"to elsewhere", []int{1, 2}, pairs(1, 3, 2, 0), true},
		{"from elsewhere, to the first one", []int{0, 1}, pairs(5, 0), true},
		{"to elsewhere, from the first one", []int{0, 1}, pairs(0, 5), true},
		{"through elsewhere", []int{1, 2}, pairs(2, 3, 3, 1), true},
		{"twice", []int{1, 1}, nil, false},
		{"twice, far apart", []int{1, 2, 3, 1}, nil, false},
		{"twice, and the steps go forward", []int{1, 2, 1}, pairs(1, 2), false},
		{"what stands behind one that goes back", []int{1, 2}, pairs(2, 1, 1, 2), false},
		{"far numbers", []int{math.MaxInt, 0, math.MinInt}, pairs(math.MaxInt, math.MinInt, 0, math.MinInt), true},
		{"far numbers, back", []int{math.MinInt, 0, math.MaxInt}, pairs(math.MaxInt, math.MinInt), false},
		{"numbers that differ above 32 bits", []int{1, 1 + 1<<32}, pairs(1, 1+1<<32), true},
	} {
		if is := Forward(c.order, c.l); is != c.want {
			t.Errorf("%s: %t", c.what, is)
		}
		forwardHeld(t, c.order, c.l, &seen{})
	}
}

// P11.2: one at least, each from where the one ahead ends, the first one too.
func TestClosed(t *testing.T) {
	for _, c := range []struct {
		what string
		l    []api.Step
		want bool
	}{
		{"nothing", nil, false},
		{"no steps", []api.Step{}, false},
		{"one, to itself", pairs(1, 1), true},
		{"one", pairs(1, 2), false},
		{"two", pairs(1, 2, 2, 1), true},
		{"two, from the greater one", pairs(2, 1, 1, 2), true},
		{"two that don't come back", pairs(1, 2, 2, 3), false},
		{"two, the second one not from there", pairs(1, 2, 3, 1), false},
		{"two that begin together", pairs(1, 2, 1, 2), false},
		{"two that end together", pairs(1, 2, 3, 2), false},
		{"three", pairs(1, 2, 2, 3, 3, 1), true},
		{"three in another order", pairs(1, 2, 3, 1, 2, 3), false},
		{"three, turned round", pairs(3, 1, 2, 3, 1, 2), false},
		{"a ring, and then one more", pairs(1, 2, 2, 1, 1, 3), false},
		{"one more, and then a ring", pairs(3, 1, 1, 2, 2, 1), false},
		{"through one twice", pairs(1, 2, 2, 3, 3, 2, 2, 1), true},
		{"round twice", pairs(1, 2, 2, 1, 1, 2, 2, 1), true},
		{"to itself twice", pairs(1, 1, 1, 1), true},
		{"to itself, two", pairs(1, 1, 2, 2), false},
		{"far numbers", pairs(math.MinInt, math.MaxInt, math.MaxInt, math.MinInt), true},
		{"numbers that differ above 32 bits", pairs(1, 2, 2, 1+1<<32), false},
		{"from and to 0", pairs(0, 0), true},
	} {
		if is := Closed(c.l); is != c.want || is != plainClosed(c.l) {
			t.Errorf("%s: %t", c.what, is)
		}
	}
}

// P11.2: the fewest steps; then the least beginning; then, step by step, what stands first.
func TestRing(t *testing.T) {
	for _, c := range []struct {
		what string
		l    []api.Step
		want []int
	}{
		{"nothing", nil, nil},
		{"one step", pairs(1, 2), nil},
		{"the example", pairs(1, 2, 2, 1), []int{0, 1}},
		{"it begins at the least, wherever that stands", pairs(2, 1, 1, 2), []int{1, 0}},
		{"a row", pairs(1, 2, 2, 3, 1, 3), nil},
		{"a diamond is none", pairs(1, 2, 1, 3, 2, 4, 3, 4), nil},
		{"one to itself", pairs(5, 5, 1, 2), []int{0}},
		{"three", pairs(3, 1, 1, 2, 2, 3), []int{1, 2, 0}},
		{"three, the other way round", pairs(3, 2, 2, 1, 1, 3), []int{2, 0, 1}},
		{"fewer behind more", pairs(1, 2, 2, 3, 3, 1, 8, 9, 9, 8), []int{3, 4}},
		{"fewer ahead of more", pairs(1, 2, 2, 1, 7, 8, 8, 9, 9, 7), []int{0, 1}},
		{"fewest of all: to itself, of a greater number", pairs(1, 2, 2, 1, 9, 9), []int{2}},
		{"the lesser one to itself", pairs(9, 9, 2, 2, 1, 9), []int{1}},
		{"the lesser beginning stands later", pairs(5, 6, 6, 5, 9, 1, 1, 9), []int{3, 2}},
		{"the lesser beginning, though what is next to it is greater", pairs(2, 3, 3, 2, 1, 9, 9, 1), []int{2, 3}},
		{"through one node, two rings: what stands first", pairs(1, 9, 1, 2, 2, 1, 9, 1), []int{0, 3}},
		{"by the first step, whatever comes then", pairs(3, 1, 1, 3, 2, 1, 1, 2), []int{1, 0}},
		{"by the place of the step, not by where it leads", pairs(2, 1, 3, 1, 1, 3, 1, 2), []int{2, 1}},
		{"the first step stands first, the second one as late as it must", pairs(9, 1, 1, 2, 1, 9, 2, 1), []int{1, 3}},
		{"one step three times: the first", pairs(2, 1, 1, 2, 2, 1, 1, 2, 1, 2), []int{1, 0}},
		{"to itself three times: the first", pairs(7, 8, 1, 1, 1, 1, 1, 1), []int{1}},
		{"a first step that leads too far isn't taken", pairs(1, 2, 2, 3, 3, 1, 1, 4, 4, 1), []int{3, 4}},
		{"a first step that leads nowhere isn't taken", pairs(1, 7, 1, 2, 2, 1), []int{1, 2}},
		{"a second step that leads elsewhere isn't taken", pairs(1, 2, 2, 5, 2, 3, 3, 1), []int{0, 2, 3}},
		{"at the second step what stands first", pairs(1, 2, 3, 1, 4, 1, 2, 4, 2, 3), []int{0, 3, 2}},
		{"a ring behind a row", pairs(1, 2, 2, 3, 3, 4, 4, 3), []int{2, 3}},
		{"a ring ahead of a row", pairs(4, 3, 3, 4, 3, 2, 2, 1), []int{1, 0}},
		{"two rings and a row between", pairs(1, 2, 2, 3, 3, 1, 3, 4, 4, 5, 5, 6, 6, 5), []int{5, 6}},
		{"a ring that goes through a lesser one is longer", pairs(1, 2, 2, 3, 3, 2, 3, 1), []int{1, 2}},
		{"rings of four through one node, and one of three without it", pairs(1, 2, 2, 3, 3, 4, 4, 1, 5, 6, 6, 7, 7, 5, 1, 5), []int{4, 5, 6}},
		{"below 0", pairs(0, -1, -1, 0), []int{1, 0}},
		{"far numbers", pairs(math.MaxInt, math.MinInt, math.MinInt, math.MaxInt, 0, 1, 1, 0), []int{1, 0}},
		{"numbers that differ above 32 bits", pairs(1, 2, 2, 1+1<<32), nil},
	} {
		places, is := plainRing(c.l)
		if is != (c.want != nil) || !slices.Equal(places, c.want) {
			t.Errorf("%s: by the document's words %v", c.what, places)
		}
		t.Run(c.what, func(t *testing.T) { ringHeld(t, c.l, c.want, c.want != nil, &seen{}) })
	}
}

// P11.2: steps are told as they are, whatever their edges.
func TestRingTellsStepsWhole(t *testing.T) {
	e := []api.Edge{{Kind: 9, From: 8, To: 7, I: -1, J: math.MaxInt}}
	l := []api.Step{{From: 2, To: 1}, {From: 1, To: 2, E: append(slices.Clone(e), e...)}, {From: 1, To: 2, E: e}, {From: 2, To: 1, E: e}}
	if ring, is := Ring(l); !is || !sameSteps(ring, []api.Step{l[1], l[0]}) {
		t.Errorf("%v, %t", ring, is)
	}
}

// P11.1, P11.2, P11.3: by the document's words, of each short row of steps between three numbers.
func TestShortRowsByWords(t *testing.T) {
	var steps []api.Step
	for from := range 3 {
		for to := range 3 {
			steps = append(steps, step(from, to))
		}
	}
	var orders [][]int
	rows([]int{0, 1, 2}, 3, func(order []int) { orders = append(orders, slices.Clone(order)) })
	var s seen
	rows(steps, 4, func(row []api.Step) {
		l := marked(row)
		if Closed(l) != plainClosed(l) {
			t.Fatalf("Closed of %v", l)
		}
		places, is := plainRing(l)
		ringHeld(t, l, places, is, &s)
		if len(l) < 4 {
			if every, _ := everyRing(l, 4); !slices.Equal(every, places) {
				t.Fatalf("of %v: %v and %v", l, places, every)
			}
		}
		for _, order := range orders {
			orderHeld(t, order, l, &s)
			forwardHeld(t, order, l, &s)
		}
	})
	s.often(t, 500)
}

// anySteps are so many steps between some numbers.
func anySteps(r *rand.Rand, many int, numbers []int) []api.Step {
	l := make([]api.Step, many)
	for i := range l {
		l[i] = step(numbers[r.Intn(len(numbers))], numbers[r.Intn(len(numbers))])
	}
	return marked(l)
}

// withoutOwn are the steps that don't lead to where they begin, so that rings are longer.
func withoutOwn(l []api.Step) []api.Step {
	return marked(slices.DeleteFunc(slices.Clone(l), func(s api.Step) bool { return s.From == s.To }))
}

// P11.1, P11.2, P11.3: by the document's words, of any steps.
func TestAnyStepsByWords(t *testing.T) {
	r := rand.New(rand.NewSource(1))
	far := []int{5, -3, 0, math.MaxInt, math.MinInt, 12, 1 << 33, 7, 6, 100}
	var s seen
	long := 0
	for range 30000 {
		numbers := far[:1+r.Intn(len(far))]
		l := withoutOwn(anySteps(r, r.Intn(14), numbers))
		if r.Intn(8) == 0 {
			l = anySteps(r, r.Intn(14), numbers)
		}
		places, is := plainRing(l)
		ringHeld(t, l, places, is, &s)
		if len(places) > 3 {
			long++
		}
		nodes := make([]int, r.Intn(12))
		for i := range nodes {
			nodes[i] = numbers[r.Intn(len(numbers))]
		}
		orderHeld(t, nodes, l, &s)
		orderHeld(t, far, l, &s)
		r.Shuffle(len(far), func(i, j int) { far[i], far[j] = far[j], far[i] })
		forwardHeld(t, far[:r.Intn(len(far))], l, &s)
		forwardHeld(t, nodes, l, &s)
	}
	if long < 200 {
		t.Errorf("only %d rings have more than three steps", long)
	}
	s.often(t, 1000)
}

// P11.2: of many rings of one length the right one, by going through all rows.
func TestEveryRowOfSteps(t *testing.T) {
	r := rand.New(rand.NewSource(2))
	var s seen
	for range 300 {
		l := withoutOwn(anySteps(r, 4+r.Intn(7), []int{1, 2, 3, 4}))
		places, is := everyRing(l, 4)
		ringHeld(t, l, places, is, &s)
	}
	if s.rings < 100 || s.noRings < 20 {
		t.Errorf("%+v", s)
	}
}

// P11.2: rings of many steps, at any numbers, with ways beside them that are longer.
func TestLongRings(t *testing.T) {
	r := rand.New(rand.NewSource(3))
	var s seen
	for range 400 {
		many := 5 + r.Intn(30)
		names := r.Perm(many)
		l := []api.Step{}
		for i := range many {
			l = append(l, step(names[i], names[(i+1)%many]))
		}
		// A step back to what is not far ahead makes rings that are shorter, but not short.
		for range r.Intn(4) {
			at := r.Intn(many)
			l = append(l, step(names[at], names[(at+many-3-r.Intn(many-4))%many]))
		}
		r.Shuffle(len(l), func(i, j int) { l[i], l[j] = l[j], l[i] })
		l = marked(l)
		places, is := plainRing(l)
		ringHeld(t, l, places, is, &s)
		nodes := names[:r.Intn(many)]
		orderHeld(t, nodes, l, &s)
	}
	if s.rings != 400 {
		t.Errorf("%+v", s)
	}
}

// R1: many steps, in each shape that would make a simple search slow or deep; what they answer is known.
func TestManySteps(t *testing.T) {
	const many = 100000
	up, down := make([]api.Step, many), make([]api.Step, many)
	rising, falling := make([]int, many+1), make([]int, many+1)
	for i := range many {
		up[i], down[i] = step(i, i+1), step(i+1, i)
	}
	for i := range many + 1 {
		rising[i], falling[i] = i, many-i
	}
	none := func(what string, l []api.Step, want []int) {
		if ring, is := Ring(l); is || len(ring) > 0 {
			t.Errorf("%s: a ring of %d", what, len(ring))
		}
		if order, is := Order(rising, l); !is || !slices.Equal(order, want) || !Forward(order, l) {
			t.Errorf("%s: no order, or another one", what)
		}
	}
	some := func(what string, l []api.Step, first, length int) {
		ring, is := Ring(l)
		if !is || len(ring) != length || ring[0].From != first || !Closed(ring) {
			t.Errorf("%s: %t, %d steps", what, is, len(ring))
		}
		if order, is := Order(rising, l); is || len(order) > 0 {
			t.Errorf("%s: an order of %d", what, len(order))
		}
	}
	none("up", up, rising)
	none("down", down, falling)
	some("round, up", append(slices.Clone(up), step(many, 0)), 0, many+1)
	some("round, down", append(slices.Clone(down), step(0, many)), 0, many+1)
	some("up into a small ring", append(slices.Clone(up), step(many, many-1)), many-1, 2)
	some("down out of a small ring", append(slices.Clone(down), step(many-1, many)), many-1, 2)
	some("up, with steps back", slices.Concat(up, down), 0, 2)
	some("each to itself", func() []api.Step {
		l := slices.Clone(up)
		for i := range l {
			l[i].To = l[i].From
		}
		return l
	}(), 0, 1)
	star := slices.Clone(up)
	for i := range star {
		star[i] = step(many, i)
	}
	none("out of one", star, append([]int{many}, rising[:many]...))
}

// dense has each step between so many numbers but those that lead to where they begin, many times.
func dense(numbers, times int) []api.Step {
	var l []api.Step
	for range times {
		for from := range numbers {
			for to := range numbers {
				if from != to {
					l = append(l, step(from, to))
				}
			}
		}
	}
	return l
}

// R1: many steps between few numbers, as a great history has them.
func TestDenseSteps(t *testing.T) {
	l := dense(32, 100)
	if ring, is := Ring(l); !is || len(ring) != 2 || ring[0].From != 0 || ring[0].To != 1 || !Closed(ring) {
		t.Errorf("%v, %t", ring, is)
	}
	l = slices.DeleteFunc(l, func(s api.Step) bool { return s.From > s.To })
	if ring, is := Ring(l); is {
		t.Errorf("a ring: %v", ring)
	}
	nodes := make([]int, 32)
	for i := range nodes {
		nodes[i] = 31 - i
	}
	slices.Reverse(l)
	order, is := Order(nodes, l)
	slices.Reverse(nodes)
	if !is || !slices.Equal(order, nodes) {
		t.Errorf("%v, %t", order, is)
	}
}

// R3, R4: what is handed in stays as it was, what stands behind it isn't read, and no call remembers another one.
func TestNothingIsKept(t *testing.T) {
	r := rand.New(rand.NewSource(4))
	for range 300 {
		l := withoutOwn(anySteps(r, 3+r.Intn(20), []int{1, 2, 3, 4, 5, 6}))
		nodes := []int{6, 2, 4, 2, 1}
		behind := append(copied(l), pairs(1, 1, 0, 0)...)[:len(l)]
		room := append(slices.Clone(nodes), 0, -1)[:len(nodes)]
		ring, is := Ring(behind)
		order, there := Order(room, behind)
		forward, closed := Forward(room, behind), Closed(behind)
		if forward != plainForward(nodes, l) || closed != plainClosed(l) {
			t.Fatalf("%v: what stands behind is read", l)
		}
		if !sameSteps(behind[:len(l)+2], append(copied(l), pairs(1, 1, 0, 0)...)) || !slices.Equal(room[:len(nodes)+2], append(slices.Clone(nodes), 0, -1)) {
			t.Fatalf("%v: what was handed in is written into", l)
		}
		Ring(pairs(1, 1))
		Order([]int{7, 8}, pairs(8, 7))
		for range 3 {
			again, still := Ring(l)
			if still != is || !sameSteps(again, ring) {
				t.Fatalf("Ring of %v: %v, and then %v", l, ring, again)
			}
			row, still := Order(nodes, l)
			if still != there || !slices.Equal(row, order) {
				t.Fatalf("Order of %v: %v, and then %v", l, order, row)
			}
		}
	}
}

// LANGUAGE 7, R3: a ring shares no memory with the steps that were handed in, nor do two of its lists; an order none with the nodes.
func TestAnswersAreNew(t *testing.T) {
	e := append(make([]api.Edge, 0, 16), api.Edge{Kind: 1, I: 1}, api.Edge{Kind: 2, I: 2}, api.Edge{Kind: 3, I: 3})
	l := []api.Step{{From: 1, To: 2, E: e}, {From: 2, To: 3, E: e[:1]}, {From: 3, To: 1, E: e}}
	before := copied(l)
	ring, is := Ring(l)
	if !is || !sameSteps(ring, before) {
		t.Fatalf("%v, %t", ring, is)
	}
	for n := range ring {
		ring[n].E = append(ring[n].E, api.Edge{Kind: -8})
		for i := range ring[n].E {
			ring[n].E[i].Kind = -9
		}
		ring[n].From = -9
		if !sameSteps(l, before) || e[:4][3] != (api.Edge{}) {
			t.Fatalf("%d: what was handed in is written into", n)
		}
		if !sameSteps(ring[n+1:], before[n+1:]) {
			t.Fatalf("%d: a step behind it is written into", n)
		}
	}
	nodes := []int{1, 2, 3}
	order, _ := Order(nodes, nil)
	for i := range order {
		order[i] = -9
	}
	if !slices.Equal(nodes, []int{1, 2, 3}) {
		t.Error("the nodes that were handed in are written into")
	}
}
