package file_test

import (
	"fmt"
	"maps"
	"math/rand"
	"slices"
	"strings"
	"testing"

	"coracle/api"
	"coracle/file"
)

// halves is a file as the chapter tells of it: what is safe, and what stands behind that.
type halves struct{ safe, loose string }

// model is files told another way, from texts alone.
type model struct {
	files map[string]halves
	ops   int
	power int // how many acts are come to, below 0 without an end
	off   bool
}

// ask is an act of the model: ErrOff, ErrArg of its names, and what change tells.
func (m *model) ask(change func() api.Errno, names ...string) api.Errno {
	m.ops++
	m.off = m.off || m.power == 0
	if m.off {
		return api.ErrOff
	}
	m.power--
	for _, name := range names {
		if name == "" || len(name) > longName {
			return api.ErrArg
		}
	}
	return change()
}

// of is a change of a file that must be there.
func (m *model) of(name string, change func(h halves) api.Errno) func() api.Errno {
	return func() api.Errno {
		h, ok := m.files[name]
		if !ok {
			return api.ErrNone
		}
		return change(h)
	}
}

func (m *model) add(name, s string) api.Errno {
	return m.ask(func() api.Errno {
		m.files[name] = halves{m.files[name].safe, m.files[name].loose + s}
		return api.OK
	}, name)
}

func (m *model) sync(name string) api.Errno {
	return m.ask(m.of(name, func(h halves) api.Errno {
		m.files[name] = halves{h.safe + h.loose, ""}
		return api.OK
	}), name)
}

func (m *model) rename(from, to string) api.Errno {
	return m.ask(m.of(from, func(h halves) api.Errno {
		if from != to {
			m.files[to] = h
			delete(m.files, from)
		}
		return api.OK
	}), from, to)
}

func (m *model) remove(name string) api.Errno {
	return m.ask(m.of(name, func(h halves) api.Errno {
		delete(m.files, name)
		return api.OK
	}), name)
}

func (m *model) truncate(name string, n int) api.Errno {
	return m.ask(m.of(name, func(h halves) api.Errno {
		all := h.safe + h.loose
		if n < 0 || n > len(all) {
			return api.ErrArg
		}
		safe := h.safe[:min(n, len(h.safe))]
		m.files[name] = halves{safe, all[len(safe):n]}
		return api.OK
	}), name)
}

func (m *model) cut(n int) { m.power = max(n, 0) }

// crash is what is left: picks go round by steps, not by division.
func (m *model) crash(picks []int) *model {
	after := &model{files: map[string]halves{}, power: -1}
	for _, name := range slices.Sorted(maps.Keys(m.files)) {
		h := m.files[name]
		left := 0
		if h.loose != "" && len(picks) > 0 {
			left, picks = picks[0], picks[1:]
			for left < 0 {
				left += len(h.loose) + 1
			}
			for left > len(h.loose) {
				left -= len(h.loose) + 1
			}
		}
		after.files[name] = halves{safe: h.safe + h.loose[:left]}
	}
	return after
}

// laid is what laid tells of files that are as the model.
func (m *model) laid() string {
	var l []string
	for _, name := range slices.Sorted(maps.Keys(m.files)) {
		l = append(l, fmt.Sprintf("%s=%s|%s", name, m.files[name].safe, m.files[name].loose))
	}
	return strings.Join(l, " ")
}

// drawnName is mostly one of a few names, and now and then one that may not be.
func drawnName(r *rand.Rand) string {
	names := []string{"a", "b", "c", "d", "\xff", strings.Repeat("n", longName), "", strings.Repeat("n", longName+1)}
	return names[min(r.Intn(len(names)), r.Intn(len(names)))]
}

// drawnAct asks one act of both, and tells what it was, and both errors.
func drawnAct(r *rand.Rand, f *file.FS, m *model) (what string, got, want api.Errno) {
	name, to, n := drawnName(r), drawnName(r), r.Intn(14)-2
	s := strings.Repeat(string(rune('A'+r.Intn(26))), r.Intn(5))
	switch r.Intn(8) {
	case 0, 1, 2:
		return add(name, s).what, f.Append(name, []byte(s)), m.add(name, s)
	case 3:
		return sync(name).what, f.Sync(name), m.sync(name)
	case 4, 5:
		return rename(name, to).what, f.Rename(name, to), m.rename(name, to)
	case 6:
		return truncate(name, n).what, f.Truncate(name, n), m.truncate(name, n)
	}
	return remove(name).what, f.Remove(name), m.remove(name)
}

func drawnPicks(r *rand.Rand) []int {
	var picks []int
	for range r.Intn(6) {
		picks = append(picks, r.Intn(41)-20)
	}
	return picks
}

// Runs of acts, Cuts and crashes tell the same of the files and of the model, at each place.
func TestRuns(t *testing.T) {
	r := rand.New(rand.NewSource(7))
	for run := range 3000 {
		f, m := file.New(), &model{files: map[string]halves{}, power: -1}
		var told []string
		for range r.Intn(40) {
			what, got, want := drawnAct(r, f, m)
			if r.Intn(12) == 0 {
				n := r.Intn(20) - 2
				what += fmt.Sprintf("; Cut(%d)", n)
				f.Cut(n)
				m.cut(n)
			}
			told = append(told, what)
			picks := drawnPicks(r)
			if got != want || laid(f) != m.laid() || f.Ops() != m.ops || laid(f.Crash(picks...)) != m.crash(picks).laid() {
				t.Fatalf("P7.1, P7.2: run %d: %s:\n got error %d, %s, %d Ops, behind Crash%v %s\nwant error %d, %s, %d Ops, %s", run, strings.Join(told, "; "), got, laid(f), f.Ops(), picks, laid(f.Crash(picks...)), want, m.laid(), m.ops, m.crash(picks).laid())
			}
			if r.Intn(15) == 0 {
				told = append(told, fmt.Sprintf("Crash%v", picks))
				f, m = f.Crash(picks...), m.crash(picks)
			}
		}
	}
}
