package chain_test

import (
	"math/rand"
	"slices"
	"strconv"
	"strings"
	"testing"

	"coracle/api"
	"coracle/block"
	"coracle/chain"
)

// taken is a header of the model that was taken in.
type taken struct {
	id, prev     api.Hash
	height, work int
}

// waits is one that was not.
type waits struct {
	id   api.Hash
	head api.Header
}

// model is a chain told another way: one list, searched from its first to its last at each question.
type model struct {
	k, room int
	all     []taken // as they came, the genesis first
	tip     api.Hash
	waiting []waits
	halted  bool
}

func newModel(g api.Header, k, orphans int) *model {
	id := block.ID(g)
	return &model{k: k, room: orphans, tip: id, all: []taken{{id: id, work: g.Work}}}
}

func (m *model) find(id api.Hash) (taken, bool) {
	for _, x := range m.all {
		if x.id == id {
			return x, true
		}
	}
	return taken{}, false
}

// floor is the tip's height less k.
func (m *model) floor() int {
	tip, _ := m.find(m.tip)
	return tip.height - m.k
}

// line is the IDs from the genesis to one that is known.
func (m *model) line(id api.Hash) []api.Hash {
	x, _ := m.find(id)
	if x.height == 0 {
		return []api.Hash{id}
	}
	return append(m.line(x.prev), id)
}

func (m *model) add(h api.Header) ([]chain.Event, api.Errno) {
	id := block.ID(h)
	if m.halted {
		return nil, api.ErrHalt
	}
	if h.Work < 1 || h.Work > mostNumber || h.Nonce < 0 || h.Nonce > mostNumber {
		return nil, api.ErrArg
	}
	_, known := m.find(id)
	if known || slices.ContainsFunc(m.waiting, func(w waits) bool { return w.id == id }) {
		return nil, api.ErrThere
	}
	prev, known := m.find(h.Prev)
	if !known {
		if len(m.waiting) >= m.room {
			return nil, api.ErrFull
		}
		m.waiting = append(m.waiting, waits{id, h})
		return nil, api.OK
	}
	if prev.height < m.floor() {
		return nil, api.ErrOld
	}
	m.take(id, h, prev)
	for m.takeOne() {
	}
	return m.change()
}

func (m *model) take(id api.Hash, h api.Header, prev taken) {
	m.all = append(m.all, taken{id: id, prev: h.Prev, height: prev.height + 1, work: prev.work + h.Work})
}

// takeOne is what becomes of the first that waits and whose Prev is known; whether there was one.
func (m *model) takeOne() bool {
	for i, w := range m.waiting {
		prev, known := m.find(w.head.Prev)
		if !known {
			continue
		}
		m.waiting = slices.Concat(m.waiting[:i], m.waiting[i+1:])
		if prev.height >= m.floor() {
			m.take(w.id, w.head, prev)
		}
		return true
	}
	return false
}

// change is the tip's, if there is a better one.
func (m *model) change() ([]chain.Event, api.Errno) {
	best, _ := m.find(m.tip)
	for _, x := range m.all {
		if x.work > best.work {
			best = x
		}
	}
	from, to := m.line(m.tip), m.line(best.id)
	same := 0
	for same < len(from) && same < len(to) && from[same] == to[same] {
		same++
	}
	if len(from)-same > m.k {
		m.halted = true
		return nil, api.ErrHalt
	}
	var events []chain.Event
	for i := len(from) - 1; i >= same; i-- {
		events = append(events, chain.Event{Kind: chain.Disconnect, ID: from[i], Height: i})
	}
	for i := same; i < len(to); i++ {
		events = append(events, chain.Event{Kind: chain.Connect, ID: to[i], Height: i})
	}
	m.tip = best.id
	m.forget(to)
	return events, api.OK
}

// forget leaves what is on the chain, or high enough, and stands on what was left: each stands behind what it stands on.
func (m *model) forget(way []api.Hash) {
	floor := m.floor()
	var left []taken
	for _, x := range m.all {
		stands := slices.ContainsFunc(left, func(y taken) bool { return y.id == x.prev })
		if slices.Contains(way, x.id) || x.height >= floor && stands {
			left = append(left, x)
		}
	}
	m.all = left
}

// state is what play's state tells of a chain that is as the model.
func (m *model) state(p *play) string {
	var way, beside, waiting []string
	line := m.line(m.tip)
	for _, id := range line {
		way = append(way, p.names[id])
	}
	numbers := func(x taken) string { return strconv.Itoa(x.height) + "/" + strconv.Itoa(x.work) }
	for _, name := range p.order {
		x, known := m.find(p.id(name))
		if known && !slices.Contains(line, x.id) {
			beside = append(beside, name+numbers(x))
		}
	}
	for _, w := range m.waiting {
		waiting = append(waiting, p.names[w.id])
	}
	tip, _ := m.find(m.tip)
	l := []string{strings.Join(way, " ") + " " + numbers(tip), strings.Join(beside, " "), strings.Join(waiting, " ")}
	if m.halted {
		l = append(l, "halted")
	}
	return strings.Join(l, "; ")
}

// draws makes headers one on another, from lines and branches of many shapes: each on one of the last few, mostly.
func draws(p *play, r *rand.Rand, n int) []string {
	l := []string{"g"}
	near, most := 1+r.Intn(6), 1+r.Intn(4)
	for i := range n {
		back := r.Intn(near)
		if r.Intn(12) == 0 {
			back = r.Intn(len(l))
		}
		work := 1 + r.Intn(most)
		if r.Intn(40) == 0 {
			work = []int{0, mostNumber + 1, 20}[r.Intn(3)]
		}
		name := "h" + strconv.Itoa(i) + "."
		p.make(name, l[max(0, len(l)-1-back)], work)
		l = append(l, name)
	}
	return l
}

// shuffle moves some of them a few places, or, now and then, far.
func shuffle(r *rand.Rand, l []string) {
	far := 1 + r.Intn(8)
	for i := range l {
		if r.Intn(3) == 0 {
			j := min(len(l)-1, i+r.Intn(far))
			l[i], l[j] = l[j], l[i]
		}
	}
}

func TestDrawn(t *testing.T) {
	seen := map[string]int{}
	for seed := range 600 {
		r := rand.New(rand.NewSource(int64(seed)))
		k, room := 1+r.Intn(6), r.Intn(7)
		p := start(t, k, room)
		m := newModel(p.heads["g"], k, room)
		l := draws(p, r, 20+r.Intn(40))
		shuffle(r, l)
		l = append(l, l[r.Intn(len(l))], l[r.Intn(len(l))])
		for i, name := range l {
			before, waited := len(m.all), len(m.waiting)
			want, e := m.add(p.heads[name])
			got := p.add(name)
			if got != p.told(want, e) || p.state() != m.state(p) {
				t.Fatalf("P10.1: seed %d, k %d, %d orphans: %s, number %d of %v:\n got %s\n     %s\nwant %s\n     %s", seed, k, room, name, i, l, got, p.state(), p.told(want, e), m.state(p))
			}
			count(seen, want, e, len(m.all)-before, len(m.waiting)-waited)
		}
	}
	for _, what := range []string{"error 0", "error 1", "error 4", "error 6", "error 8", "error 9", "up", "down", "fewer", "forgotten", "waits", "comes in"} {
		if seen[what] == 0 {
			t.Errorf("P10.1: no drawn header had this: %s (%v)", what, seen)
		}
	}
}

// count counts what a step of the model was.
func count(seen map[string]int, events []chain.Event, e api.Errno, all, waiting int) {
	seen["error "+strconv.Itoa(int(e))]++
	ups, downs := 0, 0
	for _, v := range events {
		if v.Kind == chain.Connect {
			ups++
		} else {
			downs++
		}
	}
	for what, holds := range map[string]bool{
		"up": ups > 0, "down": downs > 0, "fewer": ups < downs, "forgotten": all < 0, "waits": waiting > 0, "comes in": waiting < 0,
	} {
		if holds {
			seen[what]++
		}
	}
}
