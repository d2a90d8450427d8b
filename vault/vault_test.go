package vault_test

import (
	"math/rand"
	"slices"
	"strconv"
	"testing"

	"spinney/api"
	"spinney/frame"
	"spinney/peg"
	"spinney/pith"
	"spinney/roll"
	"spinney/slate"
	"spinney/vault"
)

func TestP18_1_Example(t *testing.T) {
	for _, sync := range []bool{false, true} {
		s := slate.New()
		v := made(t, s, state())
		if e := v.Add(pith.Entry{Kind: pith.Born, N: 1}); e != api.OK {
			t.Fatalf("Add: %d", e)
		}
		want := 0
		if sync {
			want = 1
			if e := v.Sync(); e != api.OK {
				t.Fatalf("Sync: %d", e)
			}
		}
		if n := opened(t, s.Crash(nil)).State().Life; n != want {
			t.Errorf("a life of %d, want %d", n, want)
		}
	}
}

func TestP18_1_MakeAddSyncOpen(t *testing.T) {
	s := slate.New()
	v := made(t, s, state())
	is(t, s, v, state(), state())
	if n := len(sealed(pith.PutState(state()))); v.Length() != n || s.Pending() != 0 || !slices.Equal(s.Files(), []int{0, 1}) {
		t.Errorf("Length %d, want %d; files %v", v.Length(), n, s.Files())
	}
	x, sure, b := state(), state(), sealed(pith.PutState(state()))
	for i, e := range entries() {
		if errno := v.Add(e); errno != api.OK {
			t.Fatalf("Add %d: %d", i, errno)
		}
		x = done(x, e)
		b = append(b, sealed(pith.PutEntry(e))...)
		is(t, s, v, x, sure)
		if v.Length() != len(b) {
			t.Errorf("Length %d, want %d", v.Length(), len(b))
		}
		if i%3 == 1 {
			if errno := v.Sync(); errno != api.OK {
				t.Fatalf("Sync: %d", errno)
			}
			sure = x
			is(t, s, v, x, x)
			p, _ := peg.Open(s.Crash(nil))
			if !slices.Equal(p.Bytes(), pegged(1, b)) {
				t.Errorf("the peg's bytes are %v, want %v", p.Bytes(), pegged(1, b))
			}
		}
	}
	if errno := v.Pack(); errno != api.OK {
		t.Fatalf("Pack: %d", errno)
	}
	is(t, s, v, x, x)
	b = sealed(pith.PutState(x))
	p, _ := peg.Open(s.Crash(nil))
	if v.Length() != len(b) || !slices.Equal(p.Bytes(), pegged(2, b)) || !slices.Equal(s.Files(), []int{0, 2}) || s.Pending() != 0 {
		t.Errorf("packed: %d bytes, %v, files %v", v.Length(), p.Bytes(), s.Files())
	}
	w := opened(t, s.Crash(nil))
	if w.Length() != len(b) {
		t.Errorf("opened: %d bytes", w.Length())
	}
}

// steps is how many steps of a slate something takes.
func steps(s *slate.Slate, what func()) int {
	const most = 1000
	s.Arm(most)
	what()
	left := 0
	for s.Write(4000, 0, nil) == api.OK {
		left++
	}
	s.Arm(most)
	s.Remove(4000)
	return most - left
}

// Sync without anything added takes no step; with something a flush of each file that was written, and two of the peg.
func TestP18_1_Steps(t *testing.T) {
	s := slate.New()
	var v *vault.Vault
	if n := steps(s, func() { v = made(t, s, state()) }); n != (len(sealed(pith.PutState(state())))+63)/64+1+2 {
		t.Errorf("Make: %d steps", n)
	}
	if n := steps(s, func() { v.Sync() }); n != 0 {
		t.Errorf("Sync of nothing: %d steps", n)
	}
	s.Arm(0)
	if e := v.Sync(); e != api.OK || s.Dead() {
		t.Errorf("Sync of nothing: %d", e)
	}
	s.Arm(1000)
	v.Add(pith.Entry{Kind: pith.Born, N: 1})
	if n := steps(s, func() { v.Sync() }); n != 3 {
		t.Errorf("Sync: %d steps", n)
	}
	if n := steps(s, func() { v.Sync() }); n != 0 {
		t.Errorf("Sync of nothing new: %d steps", n)
	}
	// Pack, though nothing was added: blocks, a flush, the peg, a removal of the one file ahead.
	if n := steps(s, func() { v.Pack() }); n != (v.Length()+63)/64+1+2+1 {
		t.Errorf("Pack: %d steps", n)
	}
	x := opened(t, s)
	if n := steps(s, func() { x.Sync() }); n != 0 {
		t.Errorf("Sync of one that was opened: %d steps", n)
	}
}

// A ledger of at most 8192 bytes is made sure as it is, a longer one packed.
func TestP18_1_SyncPacks(t *testing.T) {
	s := slate.New()
	v := made(t, s, state())
	x, packed := state(), 0
	for n := 1; packed < 3; n++ {
		e := pith.Entry{Kind: pith.Moved, N: n % 3}
		if errno := v.Add(e); errno != api.OK {
			t.Fatalf("Add: %d", errno)
		}
		x = done(x, e)
		was, first := v.Length(), v.Extent().First
		if errno := v.Sync(); errno != api.OK {
			t.Fatalf("Sync: %d", errno)
		}
		short := len(sealed(pith.PutState(x)))
		if was > 8192 {
			if v.Length() != short || v.Extent().First <= first {
				t.Fatalf("Sync of %d bytes: %d bytes from %d on", was, v.Length(), v.Extent().First)
			}
			packed++
			is(t, s, v, x, x)
		} else if v.Length() != was || v.Extent().First != first {
			t.Fatalf("Sync of %d bytes: %d bytes from %d on", was, v.Length(), v.Extent().First)
		}
	}
	// Just 8192 bytes aren't packed; one more is. (Entries of 28, 29 and more bytes.)
	for _, size := range []int{8192, 8193} {
		s = slate.New()
		v = made(t, s, state())
		life := 1
		for v.Length() < size {
			left := size - v.Length()
			e := pith.Entry{Kind: pith.Moved, N: 1}
			one := len(sealed(pith.PutEntry(e)))
			if left < 2*one+4 && left > one+4 || left > one && left <= one+4 {
				// a life of more bytes, so that the rest comes out even
				for bytes := 1; bytes <= 4; bytes++ {
					b := pith.Entry{Kind: pith.Born, N: max(life, 1<<(8*(bytes-1)))}
					if n := len(sealed(pith.PutEntry(b))); (left-n)%one == 0 {
						e, life = b, b.N+1
						break
					}
				}
			}
			if errno := v.Add(e); errno != api.OK {
				t.Fatalf("Add: %d", errno)
			}
		}
		if v.Length() != size {
			t.Fatalf("%d bytes, not %d", v.Length(), size)
		}
		v.Sync()
		if (v.Length() == size) != (size == 8192) {
			t.Errorf("Sync of %d bytes: %d then", size, v.Length())
		}
	}
}

// Packed again and again it begins at the file behind the last one, and at 1 again behind 2500.
func TestP18_1_PackedAgainAndAgain(t *testing.T) {
	for _, size := range []int{1, 1500} {
		s := slate.New()
		x := bulky(size)
		v := made(t, s, x)
		first, again := 1, 0
		for again < 2 {
			files := (v.Length() + 1023) / 1024
			first += files
			if first > 2500 {
				first = 1
				again++
			}
			if e := v.Pack(); e != api.OK {
				t.Fatalf("Pack: %d", e)
			}
			want := []int{0}
			for i := range files {
				want = append(want, first+i)
			}
			if v.Extent().First != first || !slices.Equal(s.Files(), want) || !slices.Equal(v.Files(), want[1:]) {
				t.Fatalf("packed to %d: files %v, want %v", v.Extent().First, s.Files(), want)
			}
			if first > 2495 || first < 5 {
				is(t, s, v, x, x)
			}
		}
	}
}

func TestP18_1_MakeWhatCanNotBe(t *testing.T) {
	s := slate.New()
	made(t, s, state())
	if v, e := vault.Make(s, state()); e != api.ErrTwice || v != nil {
		t.Errorf("Make upon a vault: %d", e)
	}
	if v, e := vault.Make(s, pith.State{}); e != api.ErrTwice || v != nil {
		t.Errorf("Make upon a vault of no good state: %d", e)
	}
	bad := state()
	bad.Parent = 3
	s = slate.New()
	s.Arm(0)
	for _, x := range []pith.State{bad, {}} {
		if v, e := vault.Make(s, x); e != api.ErrForm || v != nil || s.Dead() {
			t.Errorf("Make of no good state: %d", e)
		}
	}
	if v, e := vault.Make(s, bulky(100001)); e != api.ErrFull || v != nil || s.Dead() {
		t.Errorf("Make of one that can't be sealed: %d", e)
	}
	if v, e := vault.Make(s, state()); e != api.ErrDead || v != nil {
		t.Errorf("Make without a step: %d", e)
	}
	s = slate.New()
	s.Spoil(0, 0, 5)
	if v, e := vault.Make(s, bad); e != api.ErrRot || v != nil {
		t.Errorf("Make upon a spoilt slate: %d", e)
	}
	if len(s.Files()) != 1 {
		t.Errorf("files %v", s.Files())
	}
}

func TestP18_1_OpenWhatIsNone(t *testing.T) {
	if v, e := vault.Open(slate.New()); e != api.ErrNone || v != nil {
		t.Errorf("Open of a blank slate: %d", e)
	}
	good, entry := pith.PutState(state()), pith.PutEntry(pith.Entry{Kind: pith.Born, N: 1})
	bad := pith.PutState(pith.State{Node: 3, Parent: 3, Room: 8})
	unused := pith.PutEntry(pith.Entry{Kind: pith.Born, N: 1, Start: 1})
	for _, c := range []struct {
		name   string
		pieces []frame.Piece
		want   api.Errno
	}{
		{"a state", []frame.Piece{good}, api.OK}, {"with an entry", []frame.Piece{good, entry}, api.OK}, {"nothing", nil, api.ErrRot}, {"an entry alone", []frame.Piece{entry}, api.ErrRot}, {"a state that isn't good", []frame.Piece{bad}, api.ErrRot}, {"two states", []frame.Piece{good, good}, api.ErrRot}, {"an entry that can't be done", []frame.Piece{good, entry, entry}, api.ErrRot}, {"an entry with what its kind doesn't use", []frame.Piece{good, unused}, api.ErrRot}, {"another piece", []frame.Piece{good, {Kind: 77}}, api.ErrRot}, {"an entry that is spoilt", []frame.Piece{good, {Kind: 1, Inside: entry.Inside[1:]}}, api.ErrRot},
	} {
		s, b := slate.New(), sealed(c.pieces...)
		lay(s, 7, b)
		p, _ := peg.Open(s)
		p.Set(pegged(7, b))
		v, e := vault.Open(s)
		if e != c.want || (v == nil) != (e != api.OK) {
			t.Errorf("%s: %d, want %d", c.name, e, c.want)
		}
	}
	b := sealed(good)
	for name, what := range map[string][]byte{"none": nil, "nine": pegged(7, b)[:9], "eleven": append(pegged(7, b), 0), "another first": pegged(6, b), "no first": pegged(0, b), "too great a first": pegged(3001, b), "another sum": append(pegged(7, b)[:9], 0), "another length": pegged(7, b[:len(b)-1]), "too great a length": {0, 7, 0, 2, 0, 1, 0, 0, 0, 0}, "the greatest length": {0, 7, 255, 255, 255, 255, 0, 0, 0, 0}} {
		s := slate.New()
		lay(s, 7, b)
		p, _ := peg.Open(s)
		p.Set(what)
		if v, e := vault.Open(s); e != api.ErrRot || v != nil {
			t.Errorf("the peg's bytes: %s: %d", name, e)
		}
	}
}

// Each error of pith.Do: nothing is added.
func TestP18_1_AddWhatCanNotBe(t *testing.T) {
	s := slate.New()
	v := made(t, s, state())
	for _, e := range entries()[:4] {
		v.Add(e)
	}
	v.Sync()
	x, n := v.State(), v.Length()
	for _, c := range []struct {
		e    pith.Entry
		want api.Errno
	}{
		{pith.Entry{}, api.ErrForm}, {pith.Entry{Kind: 9}, api.ErrForm}, {pith.Entry{Kind: pith.Born, N: 2, End: 1}, api.ErrForm}, {pith.Entry{Kind: pith.Born, N: 1}, api.ErrRange}, {pith.Entry{Kind: pith.Took, Write: write("3/2 put a 1")}, api.ErrTwice}, {pith.Entry{Kind: pith.Took, Write: write("3/4 put a 1")}, api.ErrGap}, {pith.Entry{Kind: pith.Took, Write: write("3/3 put c 1")}, api.ErrReach}, {pith.Entry{Kind: pith.Grew, Start: 5, End: 5}, api.ErrGap}, {pith.Entry{Kind: pith.Leapt, N: 2}, api.ErrBelow}, {pith.Entry{Kind: pith.Moved, N: 3}, api.ErrRange}, {pith.Entry{Kind: pith.Cut, N: 3}, api.ErrRange},
	} {
		if e := v.Add(c.e); e != c.want || v.Length() != n || s.Pending() != 0 {
			t.Errorf("Add of %v: %d, want %d", c.e, e, c.want)
		}
		is(t, s, v, x, x)
	}
	root, _ := pith.New(0, -1, 40, api.Reach{""})
	v = made(t, slate.New(), root)
	if e := v.Add(pith.Entry{Kind: pith.Grew, End: 1}); e != api.ErrTree {
		t.Errorf("Add at the root: %d", e)
	}
}

// A ledger that is full; a state that can't be sealed any more, at Sync and at Pack.
func TestP18_1_Full(t *testing.T) {
	s := slate.New()
	v := made(t, s, state())
	big := pith.Entry{Kind: pith.Leapt, N: 1, Cells: bulky(60000).Stem.Cells}
	if e := v.Add(big); e != api.OK {
		t.Fatalf("Add: %d", e)
	}
	big.N = 2
	if e := v.Add(big); e != api.OK {
		t.Fatalf("Add: %d", e)
	}
	x, n := v.State(), v.Length()
	big.N = 3
	s.Arm(0)
	if e := v.Add(big); e != api.ErrFull || v.Length() != n || !same(v.State(), x) || s.Dead() {
		t.Errorf("Add to a full one: %d", e)
	}
	s.Arm(1 << 30)
	if e := v.Add(pith.Entry{Kind: pith.Born, N: 1}); e != api.OK {
		t.Errorf("Add of what has room: %d", e)
	}
	if e := v.Sync(); e != api.OK || v.Length() > n {
		t.Errorf("Sync: %d, %d bytes", e, v.Length())
	}
	x = v.State()
	is(t, s, v, x, x)
	// Just as much as a piece may have inside, and then more: a state that stands, but can't be packed.
	s = slate.New()
	v = made(t, s, bulky(99900))
	sure := v.State()
	for i := 1; i < 9; i++ {
		if e := v.Add(pith.Entry{Kind: pith.Took, Write: write("3/" + strconv.Itoa(i) + " put b \"0123456789012345678901234567890123456789\"")}); e != api.OK {
			t.Fatalf("Add: %d", e)
		}
	}
	x, n = v.State(), v.Length()
	for range 2 {
		pending := s.Pending()
		if e := v.Sync(); e != api.ErrFull || s.Pending() != pending {
			t.Errorf("Sync of what can't be sealed: %d", e)
		}
		if e := v.Pack(); e != api.ErrFull || s.Pending() != pending || v.Length() != n {
			t.Errorf("Pack of what can't be sealed: %d", e)
		}
		is(t, s, v, x, sure)
	}
	if e := v.Add(pith.Entry{Kind: pith.Born, N: 1}); e != api.OK {
		t.Errorf("Add behind that: %d", e)
	}
}

// A vault that was refused is refused from then on, whatever steps there are.
func TestP18_1_Refused(t *testing.T) {
	for budget := range 6 {
		s := slate.New()
		v := made(t, s, state())
		s.Arm(budget)
		e := v.Add(pith.Entry{Kind: pith.Born, N: 1})
		if e == api.OK {
			e = v.Sync()
		}
		if e == api.OK {
			e = v.Pack()
		}
		if e != api.ErrDead {
			t.Fatalf("a budget of %d: %d", budget, e)
		}
		s.Arm(1000)
		for range 2 {
			if e := v.Add(pith.Entry{Kind: pith.Born, N: 100}); e != api.ErrDead {
				t.Errorf("Add: %d", e)
			}
			if e := v.Add(pith.Entry{Kind: pith.Born, N: -1}); e != api.ErrRange {
				t.Errorf("Add of what can't be done: %d", e)
			}
			if e := v.Sync(); e != api.ErrDead {
				t.Errorf("Sync: %d", e)
			}
			if e := v.Pack(); e != api.ErrDead {
				t.Errorf("Pack: %d", e)
			}
		}
		if s.Write(9, 9, nil) != api.OK {
			t.Error("the slate is dead")
		}
	}
}

// act is one of a vault's, as a number tells: 0 to 7 an entry, 8 Sync, 9 Pack.
func act(v *vault.Vault, n int) api.Errno {
	switch n {
	case 8:
		return v.Sync()
	case 9:
		return v.Pack()
	}
	return v.Add(entries()[n])
}

// ways are all ways of what is kept of so many writes, or some of them by chance, if there are too many.
func ways(r *rand.Rand, n int) [][]bool {
	var l [][]bool
	if n <= 6 {
		for bits := range 1 << n {
			keep := make([]bool, n)
			for i := range keep {
				keep[i] = bits>>i&1 == 1
			}
			l = append(l, keep)
		}
		return l
	}
	l = append(l, nil, slices.Repeat([]bool{true}, n))
	for range 60 {
		keep := make([]bool, n)
		for i := range keep {
			keep[i] = r.Intn(2) == 0
		}
		l = append(l, keep)
	}
	return l
}

// P18.2: for every budget, and every way of what is kept: what was sure, or was being made sure.
func TestP18_2_WhereverThePowerGoes(t *testing.T) {
	r := rand.New(rand.NewSource(182))
	for _, first := range []pith.State{state(), bulky(1200)} {
		for _, script := range [][]int{{}, {0, 8}, {0, 1, 2, 8, 3, 8, 8, 4, 5, 6, 8, 7, 8}, {0, 9, 1, 9, 2, 8, 9, 3, 4, 9}, {0, 1, 2, 3, 4, 5, 6, 7, 9, 9, 8}} {
			for budget := 0; ; budget++ {
				s := slate.New()
				s.Arm(budget)
				allowed := []pith.State{}
				v, e := vault.Make(s, first)
				if e == api.OK {
					allowed = []pith.State{first}
					for _, n := range script {
						was := v.State()
						if e = act(v, n); e != api.OK {
							if n >= 8 {
								allowed = append(allowed, was)
							}
							break
						}
						if n >= 8 {
							allowed = []pith.State{was}
						}
						if !same(v.Sure(), allowed[0]) {
							t.Fatalf("Sure: %v, want %v", v.Sure(), allowed[0])
						}
					}
				}
				if e != api.OK && e != api.ErrDead {
					t.Fatalf("a budget of %d: %d", budget, e)
				}
				for _, keep := range ways(r, s.Pending()) {
					c := s.Crash(keep)
					x, errno := vault.Open(c)
					if len(allowed) == 0 { // Make was under way
						if errno != api.ErrNone && (errno != api.OK || !same(x.State(), first)) {
							t.Fatalf("a budget of %d, Make: %d", budget, errno)
						}
						if errno == api.ErrNone {
							x = made(t, c, first)
						}
						goesOn(t, c, x)
						continue
					}
					if errno != api.OK || !slices.ContainsFunc(allowed, func(y pith.State) bool { return same(y, x.State()) }) || !same(x.State(), x.Sure()) {
						t.Fatalf("script %v, a budget of %d, kept %v: %d", script, budget, keep, errno)
					}
					goesOn(t, c, x)
				}
				if e == api.OK {
					break
				}
			}
		}
	}
}

// goesOn looks whether a vault that was opened behind a crash may be changed, packed, and opened again.
func goesOn(t *testing.T, s *slate.Slate, v *vault.Vault) {
	t.Helper()
	x := v.State()
	for i := range 2 {
		e := pith.Entry{Kind: pith.Born, N: x.Life + 7}
		if v.Add(e) != api.OK || v.Sync() != api.OK {
			t.Fatal("behind a crash: Add, Sync")
		}
		x = done(x, e)
		if i == 1 {
			if v.Pack() != api.OK || len(s.Files()) != 1+len(v.Files()) {
				t.Fatal("behind a crash: Pack")
			}
		}
		is(t, s, v, x, x)
	}
}

// P18.3: a bit of the peg's blocks, or of the ledger's bytes that count.
func TestP18_3_ABitIsTurned(t *testing.T) {
	s := slate.New()
	v := made(t, s, state())
	for round := range 3 {
		for block := range 2 {
			for bit := range 512 {
				s.Spoil(0, block, bit)
				if x, e := vault.Open(s); e != api.ErrRot || x != nil {
					t.Fatalf("bit %d of the peg's block %d: %d", bit, block, e)
				}
				s.Spoil(0, block, bit)
			}
		}
		first, n := v.Extent().First, v.Length()
		for bit := range (n + 63) / 64 * 512 {
			file, block := first+bit/8/1024, bit/8%1024/64
			s.Spoil(file, block, bit%512)
			x, e := vault.Open(s)
			if bit < 8*n && (e != api.ErrRot || x != nil) || bit >= 8*n && e != api.OK {
				t.Fatalf("bit %d of %d bytes: %d", bit, n, e)
			}
			s.Spoil(file, block, bit%512)
		}
		is(t, s, v, v.State(), v.State())
		for _, e := range entries()[3*round : min(3*round+3, 8)] {
			if e := v.Add(e); e != api.OK {
				t.Fatalf("Add: %d", e)
			}
		}
		if v.Sync() != api.OK {
			t.Fatal("Sync")
		}
	}
}

// P18.3: behind a Sync or Pack that answered OK what stands is sure; entries by chance.
func TestP18_3_SyncAndPackAreSure(t *testing.T) {
	r := rand.New(rand.NewSource(183))
	for range 20 {
		s := slate.New()
		v := made(t, s, state())
		x, sure := state(), state()
		for range 100 {
			var e pith.Entry
			switch r.Intn(5) {
			case 0:
				e = pith.Entry{Kind: pith.Moved, N: r.Intn(12)}
			case 1:
				e = pith.Entry{Kind: pith.Took, Write: write("3/" + strconv.Itoa(min(40, pith.Next(x))) + " add a 1")}
			case 2:
				e = pith.Entry{Kind: pith.Grew, Start: x.Stem.End, End: x.Stem.End + 1}
				if len(x.Queue) > 0 {
					e.Lines = []roll.Line{{At: x.Stem.End, Write: x.Queue[0]}}
				}
			case 3:
				e = pith.Entry{Kind: pith.Cut, N: x.Stem.End}
			default:
				if r.Intn(2) == 0 && v.Sync() != api.OK || r.Intn(9) == 0 && v.Pack() != api.OK {
					t.Fatal("Sync, Pack")
				}
				if same(v.Sure(), x) {
					sure = x
				}
				is(t, s, v, x, sure)
				v.Sync()
				sure = x
				is(t, s, v, x, x)
				continue
			}
			y, want := pith.Do(x, e)
			if errno := v.Add(e); errno != want {
				t.Fatalf("Add: %d, want %d", errno, want)
			}
			if want == api.OK {
				x = y
			}
			is(t, s, v, x, sure)
		}
	}
}
