package script_test

import (
	"math"
	"math/rand"
	"slices"
	"testing"

	"pennyweight/api"
	"pennyweight/script"
)

func TestKinds(t *testing.T) {
	kinds := []int{script.Project, script.Extend, script.Lower, script.Raise, script.Prune, script.Assign, script.Enforce, script.Eliminate, script.All, script.Mark, script.Undo, script.Kinds}
	for want, kind := range kinds {
		if kind != want {
			t.Errorf("the kind %d stands at %d", kind, want)
		}
	}
}

func TestName(t *testing.T) {
	names := []string{"project", "extend", "lower", "raise", "prune", "assign", "enforce", "eliminate", "all", "mark", "undo"}
	for range 2 {
		for kind, want := range names {
			if got := script.Name(kind); got != want {
				t.Errorf("Name(%d): %q, not %q", kind, got, want)
			}
		}
		for _, kind := range otherKinds {
			if got := script.Name(kind); got != "" {
				t.Errorf("Name(%d): %q", kind, got)
			}
		}
	}
}

var otherKinds = []int{-1, -11, script.Kinds, script.Kinds + 1, 2 * script.Kinds, 256, math.MinInt, math.MaxInt, 1 << 32, 1<<32 + 1}

func TestSafe(t *testing.T) {
	for kind := range script.Kinds {
		want := slices.Contains([]int{script.Project, script.Extend, script.Lower, script.Raise, script.Prune, script.Enforce}, kind)
		for _, o := range []script.Op{{}, {A: 7, B: -1, C: math.MaxInt, Cost: -1}, {A: math.MinInt, Cost: math.MaxInt64}} {
			o.Kind = kind
			if got := script.Safe(o); got != want {
				t.Errorf("Safe(%v): %v", o, got)
			}
		}
	}
	for _, kind := range otherKinds {
		if script.Safe(script.Op{Kind: kind}) {
			t.Errorf("Safe of the kind %d", kind)
		}
	}
}

func reads(t *testing.T, p []byte, want ...script.Op) {
	t.Helper()
	for range 2 {
		if got := script.Read(p); !slices.Equal(got, want) {
			t.Fatalf("Read(%v): %v, not %v", p, got, want)
		}
	}
}

func TestRead(t *testing.T) {
	reads(t, nil)
	reads(t, []byte{})
	reads(t, []byte{6, 4}, script.Op{Kind: script.Enforce, A: 4}) // the chapter's example
	whole := []byte{10, 5, 3, 2, 1, 1}
	wants := []script.Op{
		{Kind: script.Undo},
		{Kind: script.Undo, A: 5},
		{Kind: script.Undo, A: 5, B: 3},
		{Kind: script.Undo, A: 5, B: 3, C: 2},
		{Kind: script.Undo, A: 5, B: 3, C: 2, Cost: 1},
		{Kind: script.Undo, A: 5, B: 3, C: 2, Cost: 257},
	}
	for i, want := range wants {
		reads(t, whole[:i+1], want)
	}
	reads(t, append(whole, 0), wants[5], script.Op{})
	reads(t, append(whole, 7), wants[5], script.Op{Kind: script.Eliminate})
	reads(t, append(whole, append(whole, 8, 3)...), wants[5], wants[5], script.Op{Kind: script.All, A: 3})
	reads(t, make([]byte, 13), script.Op{}, script.Op{}, script.Op{})
	reads(t, []byte{255, 255, 255, 255, 255, 255}, script.Op{Kind: 2, A: 3, B: 3, C: 3, Cost: 65535})
}

// TestReadBytes has each byte in each place.
func TestReadBytes(t *testing.T) {
	for b := range 256 {
		wants := []script.Op{{Kind: b % 11}, {A: b % 6}, {B: b % 4}, {C: b % 4}, {Cost: int64(b)}, {Cost: int64(b) * 256}}
		for place, want := range wants {
			p := make([]byte, 6)
			p[place] = byte(b)
			reads(t, p, want)
			reads(t, p[:place+1], want)
		}
	}
}

func TestReadRandom(t *testing.T) {
	r := rand.New(rand.NewSource(1))
	for range 3000 {
		p := someBytes(r, r.Intn(40))
		reads(t, p, opsOf(p)...)
	}
	p := someBytes(r, 1<<20)
	reads(t, p, opsOf(p)...)
}

// TestMemory writes over all that was handed in or answered.
func TestMemory(t *testing.T) {
	room := []byte{9, 0, 0, 0, 0, 0, 2, 7, 7, 7, 7, 7, 7, 7}
	p, was := room[:8], slices.Clone(room)
	s := made(t, small)
	read, played := script.Read(p), script.Play(s, p)
	if !slices.Equal(room, was) {
		t.Fatalf("the bytes are %v now", room)
	}
	clear(room)
	again, more := script.Read(was[:8]), script.Play(s, was[:8])
	wantRead := []script.Op{{Kind: script.Mark}, {Kind: script.Lower, A: 1}}
	wantPlayed := []api.Errno{api.OK, api.OK}
	for range 2 {
		if !slices.Equal(read, wantRead) || !slices.Equal(played, wantPlayed) {
			t.Fatal(read, played)
		}
		for i := range again {
			again[i], more[i] = script.Op{Kind: 5}, api.ErrText
		}
	}
}

func plays(t *testing.T, p *pair, bytes []byte) {
	t.Helper()
	var want []api.Errno
	for _, o := range opsOf(bytes) {
		want = append(want, direct(p.twin, o))
	}
	if got := script.Play(p.s, bytes); !slices.Equal(got, want) {
		t.Fatalf("Play(%v): %v, not %v", bytes, got, want)
	}
	unchanged(t, p.s, look(p.twin))
}

func TestPlay(t *testing.T) {
	p := pairOf(t, small)
	before := look(p.s)
	for _, none := range [][]byte{nil, {}} {
		if l := script.Play(p.s, none); len(l) > 0 {
			t.Fatal(l)
		}
		if l := script.Play(nil, none); len(l) > 0 {
			t.Fatal(l)
		}
		unchanged(t, p.s, before)
	}
	bytes := []byte{
		9, 0, 0, 0, 0, 0, // mark
		2, 2, 0, 0, 1, 0, // lower 2 by 1: one of its values costs 0
		2, 0, 0, 0, 3, 0, // lower 0 by 3
		2, 0, 0, 0, 0, 1, // lower 0 by 256: no cost
		8, 4, 0, 0, 0, 0, // all up to 4
		10, 1, 0, 0, 0, 0, // undo of 1
		11 + 4, 1, 2, 0, 0, 0, // prune of the value 2 of 1
		5, 1, // assign
	}
	want := []api.Errno{api.OK, api.ErrIllegal, api.OK, api.ErrRange, api.ErrArg, api.ErrNone, api.OK, api.OK}
	if got := script.Play(p.s, bytes); !slices.Equal(got, want) {
		t.Fatal(got)
	}
	if p.s.Zero() != 5 || p.s.Dom(1).Len() != 1 || p.s.Depth() != 1 {
		t.Fatal(look(p.s))
	}
	if got := script.Play(p.s, []byte{10}); !slices.Equal(got, []api.Errno{api.OK}) {
		t.Fatal(got)
	}
	unchanged(t, p.s, before)
	if got := script.Play(nil, bytes); !slices.Equal(got, slices.Repeat([]api.Errno{api.ErrNone}, 8)) {
		t.Fatal(got)
	}
}

// TestRandom plays bytes all at once, and the same ones one by one.
func TestRandom(t *testing.T) {
	r := rand.New(rand.NewSource(2))
	var oks, refused [script.Kinds]int
	for range 1500 {
		text, bytes := someText(r), someBytes(r, r.Intn(200))
		plays(t, pairOf(t, text), bytes)
		p := pairOf(t, text)
		for _, o := range script.Read(bytes) {
			p.do(o)
		}
		for kind := range script.Kinds {
			oks[kind] += p.oks[kind]
			refused[kind] += p.refused[kind]
		}
	}
	for kind := range script.Kinds {
		if oks[kind] < 100 || refused[kind] < 100 && kind != script.Mark {
			t.Errorf("%s: %d times OK, %d times not", script.Name(kind), oks[kind], refused[kind])
		}
	}
}

// TestAgain plays the same on another state of the network: the same comes of it.
func TestAgain(t *testing.T) {
	r := rand.New(rand.NewSource(3))
	for range 300 {
		text, bytes := someText(r), someBytes(r, r.Intn(300))
		one, other := made(t, text), made(t, text)
		first, second := script.Play(one, bytes), script.Play(other, bytes)
		if !slices.Equal(first, second) {
			t.Fatal(first, second)
		}
		unchanged(t, one, look(other))
	}
}

// TestManyBytes plays as many as a file may have, on a network whose marks are left open.
func TestManyBytes(t *testing.T) {
	r := rand.New(rand.NewSource(4))
	for range 5 {
		text, bytes := someText(r), someBytes(r, api.MaxBytes)
		for i := 0; i < len(bytes); i += 6 {
			if bytes[i]%11 == script.Undo && r.Intn(50) > 0 {
				bytes[i] = script.Mark
			}
		}
		plays(t, pairOf(t, text), bytes)
	}
}
