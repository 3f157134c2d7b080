package tests

import (
	"encoding/binary"
	"fmt"
	"go/ast"
	"go/parser"
	"go/token"
	"hash"
	"hash/fnv"
	"maps"
	"math"
	"math/rand"
	"path/filepath"
	"reflect"
	"runtime"
	"slices"
	"strings"
	"sync"
	"testing"

	"loop.example/g00231/impl"
)

// everyFunction is what P21 speaks of: all exported functions, chapter by chapter.
var everyFunction = map[string]any{
	"Byte": impl.Byte, "Addr": impl.Addr, "Add8": impl.Add8, "Sub8": impl.Sub8, "Signs": impl.Signs, "Join": impl.Join,
	"ImageOk": impl.ImageOk, "ImageRead": impl.ImageRead, "ImageBytes": impl.ImageBytes, "BankOf": impl.BankOf,
	"OpName": impl.OpName, "OpOf": impl.OpOf, "OpLen": impl.OpLen, "OpCycles": impl.OpCycles, "OpAccess": impl.OpAccess,
	"Assemble": impl.Assemble, "LineOf": impl.LineOf, "Listing": impl.Listing,
	"CpuOk": impl.CpuOk, "Flags": impl.Flags, "WithFlags": impl.WithFlags, "SetA": impl.SetA, "SetX": impl.SetX,
	"MemOk": impl.MemOk, "MemNew": impl.MemNew, "Region": impl.Region, "Peek": impl.Peek, "Poke": impl.Poke, "Push": impl.Push, "Pull": impl.Pull,
	"Fetch": impl.Fetch, "Access": impl.Access, "Exec": impl.Exec, "Enter": impl.Enter, "CpuNew": impl.CpuNew,
	"PpuOk": impl.PpuOk, "PpuNew": impl.PpuNew, "Dot": impl.Dot, "PpuTick": impl.PpuTick, "PpuWrite": impl.PpuWrite, "PpuRead": impl.PpuRead,
	"BlankIn": impl.BlankIn, "FrameOf": impl.FrameOf, "NextBlank": impl.NextBlank,
	"ApuOk": impl.ApuOk, "ApuTick": impl.ApuTick, "ApuWrite": impl.ApuWrite, "ApuRead": impl.ApuRead, "BeatIn": impl.BeatIn,
	"PadsOk": impl.PadsOk, "PadAt": impl.PadAt, "PadWrite": impl.PadWrite, "PadRead": impl.PadRead,
	"LockOk": impl.LockOk, "LockNew": impl.LockNew, "LockRead": impl.LockRead, "LockWrite": impl.LockWrite, "LockStep": impl.LockStep, "LockRun": impl.LockRun,
	"RingOk": impl.RingOk, "RingNew": impl.RingNew, "RingPut": impl.RingPut, "RingHead": impl.RingHead, "RingTake": impl.RingTake,
	"PictureOk": impl.PictureOk, "SoundOk": impl.SoundOk, "PictureStep": impl.PictureStep, "SoundStep": impl.SoundStep, "PictureCatch": impl.PictureCatch, "SoundCatch": impl.SoundCatch,
	"SplitOk": impl.SplitOk, "SplitNew": impl.SplitNew, "Wait": impl.Wait, "CpuStep": impl.CpuStep,
	"Pick": impl.Pick, "Play": impl.Play, "Able": impl.Able, "Level": impl.Level, "Fair": impl.Fair,
	"ObsOf": impl.ObsOf, "ObsSame": impl.ObsSame, "ObsBegins": impl.ObsBegins, "LockSame": impl.LockSame, "AsLock": impl.AsLock,
	"Twin": impl.Twin, "JudgeCpu": impl.JudgeCpu, "JudgeSeen": impl.JudgeSeen, "JudgeLevel": impl.JudgeLevel, "JudgeAlive": impl.JudgeAlive, "JudgeAll": impl.JudgeAll,
	"FrameText": impl.FrameText, "FrameRead": impl.FrameRead, "ToneText": impl.ToneText, "CpuText": impl.CpuText,
	"Setup": impl.Setup, "Do": impl.Do, "Session": impl.Session,
}

// TestEveryFunctionIsThere: the program's files export no other function, and no method, and none has an empty body.
func TestEveryFunctionIsThere(t *testing.T) {
	files, _ := filepath.Glob("../impl/*.go")
	if len(files) != 20 {
		t.Fatalf("%d files", len(files))
	}
	found := map[string]bool{}
	for _, file := range files {
		f, err := parser.ParseFile(token.NewFileSet(), file, nil, 0)
		if err != nil {
			t.Fatal(err)
		}
		for _, d := range f.Decls {
			x, is := d.(*ast.FuncDecl)
			if !is || !x.Name.IsExported() {
				continue
			}
			if x.Recv != nil { // but what makes an error of a type
				if x.Name.Name != "Error" {
					t.Errorf("%s is a method", x.Name.Name)
				}
				continue
			}
			found[x.Name.Name] = true
			if everyFunction[x.Name.Name] == nil || len(x.Body.List) == 0 {
				t.Errorf("%s: not a function of the document, or without a body", x.Name.Name)
			}
		}
	}
	for name := range everyFunction {
		if !found[name] {
			t.Errorf("%s is not there", name)
		}
	}
}

var anyInts = []int{
	math.MinInt, math.MinInt + 1, math.MinInt + 7, -1 << 32, -65537, -65536, -20000, -257, -256, -255, -129, -128, -65, -64, -48, -17, -8, -3, -2, -1,
	0, 1, 2, 3, 4, 5, 6, 7, 8, 14, 15, 16, 17, 20, 29, 30, 31, 32, 33, 47, 48, 49, 63, 64, 65, 79, 80, 81, 127, 128, 129, 254, 255, 256, 257, 511, 512, 600, 1000, 3000, 3001,
	8191, 8192, 8194, 8195, 8196, 8199, 16383, 16384, 16385, 16386, 16387, 16388, 16405, 16406, 19968, 19999, 20000, 20001, 32767, 32768, 40000, 49151, 49152, 65530, 65532, 65535, 65536, 65537,
	1 << 31, 1 << 32, 1<<32 + 5, math.MaxInt - 7, math.MaxInt - 1, math.MaxInt,
}

func anyTexts() []string {
	texts := slices.Concat(someTexts(), deskLines(), []string{
		handText, deskText(0), deskText(1), deskText(5), judgedText, "nop\nfly", strings.Repeat("\n", 80), strings.Repeat("\n", 81), strings.Repeat("\n", 3001), strings.Repeat("cpu\nwait\nlevel\n", 20),
		"cpu\nfair 50\nshow\njudge", mixedLines(1, 30), mixedLines(2, 80), "nop", "ldi", "ldi 5", "ldi 256", "byte 7", "at 300", "\xc3\n\xe2\x82", strings.Repeat("9", 5000), "a\x00b",
	})
	next := rand.New(rand.NewSource(20)).Intn
	for many := range 60 {
		text := make([]byte, many)
		for n := range text {
			text[n] = byte(next(256))
		}
		texts = append(texts, string(text))
	}
	for op := range impl.Ops {
		texts = append(texts, impl.OpName(op), impl.OpName(op)+" 8192")
	}
	return texts
}

func anyLists() [][]int {
	lists := slices.Concat(someLists(), rightPads()[:14], wrongPads()[:14])
	for _, v := range anyInts[:8] {
		lists = append(lists, []int{v}, slices.Repeat([]int{v}, 48), append(padsOf(5), v))
	}
	return append(lists, imageOf(1).Banks[0], bankFrom(250, 3, 1, 20, 9), fullMem(0).Ram, mixedRow(3, 200), mixedRow(6, 300), make([]int, 3000), make([]int, 3001), []int{0, 0, 1, 2, 0, 9, -1})
}

func anyFiles() [][]byte {
	file := fileOf(imageOf(2))
	return [][]byte{
		nil, {}, []byte("2CLK"), []byte("2CLK\x01"), file, fileOf(imageOf(1)), fileOf(imageOf(8)), fileOf(imageOf(9)), file[:5], file[:6], file[:300], file[:len(file)-1], append(slices.Clone(file), 0),
		changed(file, 0, 'x'), changed(file, 4, 0), changed(file, 4, 1), changed(file, 4, 255), changed(file, 5, file[5]+1), changed(file, 300, file[300]+1), make([]byte, 5000),
	}
}

// valuesOf are those of a map in the order of their names, so that each run asks the same.
func valuesOf[V any](all map[string]V) []V {
	var values []V
	for _, name := range slices.Sorted(maps.Keys(all)) {
		values = append(values, all[name])
	}
	return values
}

// pool has values of each type that a function takes.
type pool map[reflect.Type][]reflect.Value

func add[V any](p pool, values ...[]V) {
	for _, v := range slices.Concat(values...) {
		p[reflect.TypeFor[V]()] = append(p[reflect.TypeFor[V]()], reflect.ValueOf(v))
	}
}

// anyValues are right ones, and ones that are not.
func anyValues() pool {
	p := pool{}
	add(p, anyInts)
	add(p, bothCarries)
	add(p, anyTexts())
	add(p, anyLists())
	add(p, anyFiles())
	add(p, valuesOf(wrongImages()), []impl.Image{{}, imageOf(1), imageOf(2), imageOf(3), imageOf(8), programOf(1), programOf(2)})
	add(p, someCpus(), []impl.Cpu{{}, {A: 5, S: 255, Pc: 49152, C: true}, {Pc: 40, I: true}})
	add(p, valuesOf(wrongMems()), []impl.Mem{{}, impl.MemNew(), fullMem(0), fullMem(1), fullMem(0), fullMem(2)})
	add(p, anyInstrs())
	add(p, valuesOf(somePpus()))
	add(p, wrongApus(), []impl.Apu{{}, apuAt(0), apuAt(15), apuAt(32), apuAt(63), apuAt(20000), {Length: 1, Asks: true}})
	add(p, []impl.Pad{{}, {Held: true}, {Shift: 173}, {Held: true, Shift: 255}, {Shift: -1}, {Shift: math.MinInt}, {Held: true, Shift: math.MaxInt}})
	add(p, valuesOf(someLocks()))
	add(p, []impl.Obs{{}, someObs(), obsAt(0), obsAt(200), {Frames: [][]int{nil, {}, {1}}}, {Samples: []int{8, 0}}, {Reads: []int{math.MinInt}}})
	add(p, recsAt(0, 5, 600, 20000), []impl.Rec{{}, {T: -1}, {T: 20001}, {Reg: 8}, {V: 256}, {T: 20000, Reg: 7, V: 255}})
	add(p, rightRings(), wrongRings()[:60])
	add(p, []impl.Picture{{}, pictureAt(0), pictureAt(47), pictureAt(84, recsAt(84, 84, 90)...), pictureAt(84, recsAt(83)...), pictureAt(20000), pictureAt(19990, recsAt(19990, 20000)...)})
	add(p, []impl.Sound{{}, soundAt(0), soundAt(31), soundAt(84, recsAt(84, 84, 90)...), soundAt(84, recsAt(83)...), soundAt(20000), soundAt(19990, recsAt(19990, 20000)...)})
	add(p, valuesOf(someSplits()), []impl.Split{splitAt(0), splitAt(84), splitBehind(130, 100, 50, 4), impl.Level(splitBehind(130, 100, 50, 4))})
	p.turn()
	return p
}

func anyInstrs() []impl.Instr {
	list := []impl.Instr{{}, {Op: math.MinInt, Arg: math.MaxInt}, {Op: math.MaxInt, Arg: math.MinInt}, {Op: 30, Arg: 5}, {Op: -1, Arg: -1}}
	for op := range 30 {
		list = append(list, impl.Instr{Op: op, Arg: 5}, impl.Instr{Op: op, Arg: anyInts[op*3]})
	}
	return list
}

// turn adds what is made of the structs: each number the least or the greatest at once, and one thing another one.
func (p pool) turn() {
	next := rand.New(rand.NewSource(21)).Intn
	for _, values := range p {
		if values[0].Kind() != reflect.Struct {
			continue
		}
		kind, many := values[0].Type(), len(values)
		for _, v := range []int{math.MinInt, -1, 1, math.MaxInt} {
			c := roomyCopy(values[many-1])
			fill(c, v)
			p[kind] = append(p[kind], c)
		}
		for n := range 60 {
			c := roomyCopy(values[n%many])
			turnOne(c, next)
			p[kind] = append(p[kind], c)
		}
	}
}

func fill(v reflect.Value, x int) {
	switch v.Kind() {
	case reflect.Struct:
		for n := range v.NumField() {
			fill(v.Field(n), x)
		}
	case reflect.Slice:
		for n := range v.Len() {
			fill(v.Index(n), x)
		}
	case reflect.Int:
		v.SetInt(int64(x))
	}
}

// turnOne turns a number or a flag, somewhere, or a list: none, a half of it, or one more.
func turnOne(v reflect.Value, next func(int) int) {
	switch v.Kind() {
	case reflect.Struct:
		turnOne(v.Field(next(v.NumField())), next)
	case reflect.Slice:
		switch how := next(6); {
		case how == 0:
			v.SetZero()
		case how == 1:
			v.Set(v.Slice(0, v.Len()/2))
		case how == 2 || v.Len() == 0:
			v.Set(reflect.Append(v, reflect.Zero(v.Type().Elem())))
		default:
			turnOne(v.Index(next(v.Len())), next)
		}
	case reflect.Int:
		v.SetInt(int64(anyInts[next(len(anyInts))]))
	case reflect.Bool:
		v.SetBool(!v.Bool())
	}
}

// spare is what stands in the room behind a list, by the kind of what the list has.
func spare(kind reflect.Type) reflect.Value {
	switch kind {
	case reflect.TypeFor[impl.Rec]():
		return reflect.ValueOf(spareRec)
	case reflect.TypeFor[[]int]():
		return reflect.ValueOf([]int{12345})
	}
	return reflect.ValueOf(165).Convert(kind)
}

// roomyCopy is a copy with spare room behind each list.
func roomyCopy(v reflect.Value) reflect.Value {
	c := reflect.New(v.Type()).Elem()
	switch v.Kind() {
	case reflect.Struct:
		for n := range v.NumField() {
			c.Field(n).Set(roomyCopy(v.Field(n)))
		}
	case reflect.Slice:
		room := reflect.MakeSlice(v.Type(), v.Len(), v.Len()+2)
		for n := range v.Len() {
			room.Index(n).Set(roomyCopy(v.Index(n)))
		}
		c.Set(reflect.Append(room, spare(v.Type().Elem()), spare(v.Type().Elem())).Slice(0, v.Len()))
	default:
		c.Set(v)
	}
	return c
}

// bareCopy has no room behind any list; an empty list is nil, or the other way round.
func bareCopy(v reflect.Value) reflect.Value {
	c := reflect.New(v.Type()).Elem()
	switch v.Kind() {
	case reflect.Struct:
		for n := range v.NumField() {
			c.Field(n).Set(bareCopy(v.Field(n)))
		}
	case reflect.Slice:
		if v.Len() == 0 && !v.IsNil() {
			return c
		}
		c.Set(reflect.MakeSlice(v.Type(), v.Len(), v.Len()))
		for n := range v.Len() {
			c.Index(n).Set(bareCopy(v.Index(n)))
		}
	default:
		c.Set(v)
	}
	return c
}

func copiesOf(args []reflect.Value, copied func(reflect.Value) reflect.Value) []reflect.Value {
	var copies []reflect.Value
	for _, v := range args {
		copies = append(copies, copied(v))
	}
	return copies
}

// digest is a number for values; for others it is another one. An empty list and nil are the same value.
func digest(values []reflect.Value, withRoom bool) uint64 {
	sum := fnv.New64a()
	for _, v := range values {
		digestInto(sum, v, withRoom)
	}
	return sum.Sum64()
}

func digestInto(sum hash.Hash64, v reflect.Value, withRoom bool) {
	number := func(x int64) {
		sum.Write(binary.LittleEndian.AppendUint64(nil, uint64(x)))
	}
	switch v.Kind() {
	case reflect.Struct:
		for n := range v.NumField() {
			digestInto(sum, v.Field(n), withRoom)
		}
	case reflect.Slice:
		number(int64(v.Len()))
		if withRoom {
			v = v.Slice(0, v.Cap())
		}
		for n := range v.Len() {
			digestInto(sum, v.Index(n), withRoom)
		}
	case reflect.String:
		number(int64(v.Len()))
		sum.Write([]byte(v.String()))
	case reflect.Bool:
		number(int64(one(v.Bool())))
	case reflect.Uint8:
		number(int64(v.Uint()))
	default:
		number(v.Int())
	}
}

// span is where a list lies, with its room.
type span struct{ from, to uintptr }

func spansOf(v reflect.Value) []span {
	var spans []span
	switch v.Kind() {
	case reflect.Struct:
		for n := range v.NumField() {
			spans = append(spans, spansOf(v.Field(n))...)
		}
	case reflect.Slice:
		if v.Cap() > 0 {
			spans = []span{{v.Pointer(), v.Pointer() + uintptr(v.Cap())*v.Type().Elem().Size()}}
		}
		if v.Type().Elem().Kind() == reflect.Slice {
			for n := range v.Len() {
				spans = append(spans, spansOf(v.Index(n))...)
			}
		}
	}
	return spans
}

// shareRoom is whether any two of all their lists do.
func shareRoom(values ...[]reflect.Value) bool {
	var all []span
	for _, v := range slices.Concat(values...) {
		all = append(all, spansOf(v)...)
	}
	slices.SortFunc(all, func(a, b span) int { return int(int64(a.from) - int64(b.from)) })
	for n := 1; n < len(all); n++ {
		if all[n].from < all[n-1].to {
			return true
		}
	}
	return false
}

// call is a function with what it is asked.
type call struct {
	name string
	f    reflect.Value
	args []reflect.Value
}

func (c call) answer(t *testing.T, args []reflect.Value) []reflect.Value {
	defer func() {
		if fault := recover(); fault != nil {
			t.Errorf("%s panics: %v", c, fault)
		}
	}()
	return c.f.Call(args)
}

func (c call) String() string {
	var told []string
	for _, v := range c.args {
		told = append(told, fmt.Sprintf("%.300s", fmt.Sprintf("%+v", v.Interface())))
	}
	return c.name + "(" + strings.Join(told, ", ") + ")"
}

// check is P21 of one call.
func (c call) check(t *testing.T) {
	t.Helper()
	roomy := copiesOf(c.args, roomyCopy)
	was := digest(roomy, true)
	got, again := c.answer(t, roomy), c.answer(t, roomy)
	bare := c.answer(t, copiesOf(c.args, bareCopy))
	switch want := digest(got, false); {
	case t.Failed():
		t.FailNow()
	case digest(roomy, true) != was:
		t.Fatalf("%s writes into an argument, or the room behind", c)
	case digest(again, false) != want:
		t.Fatalf("%s: another answer the second time", c)
	case digest(bare, false) != want:
		t.Fatalf("%s: another answer without room behind the lists, or of nil for an empty one", c)
	case shareRoom(roomy, got, again):
		t.Fatalf("%s: an answer shares its room with an argument, another answer, or itself", c)
	}
	runtime.KeepAlive(roomy)
}

// fitting are calls whose arguments have to be right all at once.
func fitting() map[string][][]any {
	m, x := programOf(3), fullMem(1)
	return map[string][][]any{
		"Setup":    {{handText, []int{1, 2}, 3}, {deskText(1), padsOf(20), 16}, {"nop\nfly", padsOf(21), 0}, {handText, padsOf(21), 1}, {handText, []int(nil), 17}},
		"Session":  {{handText, []int{1, 2}, 3, "cpu\nfair 60\nshow\njudge\nx"}, {deskText(1), padsOf(20), 1, mixedLines(4, 30)}, {handText, []int{}, 2, strings.Repeat("\n", 81)}, {handText, []int{}, 2, ""}, {"fly", []int{}, 2, "cpu"}},
		"SplitNew": {{m, []int{5, 6}, 4}, {imageOf(8), padsOf(20), 16}, {m, []int(nil), 1}, {m, []int(nil), 0}},
		"LockNew":  {{m, []int{5, 6}}, {imageOf(8), padsOf(20)}},
		"Peek":     {{m, x, 40000}, {m, x, 65535}, {m, x, 5}}, "Poke": {{m, x, 40000, 7}, {m, x, 65535, -1}, {m, x, 513, 300}}, "Fetch": {{m, x, 49152}, {m, x, 65535}}, "Enter": {{m, x, impl.Cpu{S: 1}, 65530}}, "CpuNew": {{m}}, "MemOk": {{m, x}},
		"Exec": {{x, impl.Cpu{S: 0}, impl.Instr{Op: 20, Arg: 600}, 0}, {x, impl.Cpu{S: 255}, impl.Instr{Op: 24}, 0}, {x, impl.Cpu{}, impl.Instr{Op: 22}, 0}},
		"Push": {{x, impl.Cpu{S: 3}, 300}}, "Pull": {{x, impl.Cpu{S: 255}}},
		"RingPut": {{ringOf(4, 2), impl.Rec{T: 20000, V: 3}}, {impl.Ring{Cap: 1}, impl.Rec{T: 5}}, {ringOf(4, 4), impl.Rec{T: 20000}}},
		"LineOf":  {{m.Banks[1], 3}, {m.Banks[1], 255}}, "Listing": {{m.Banks[1], 0, 256}, {m.Banks[1], 250, 9}},
		"PadAt": {{padsOf(20), 20000}}, "PadRead": {{impl.Pad{Held: true}, padsOf(3), 70}}, "PadWrite": {{impl.Pad{}, padsOf(3), 70, 1}},
	}
}

// callsOf are all calls of a function that the pool gives, where these are few; else those by hand, and so many others, or as many as have each value once.
func callsOf(p pool, name string, many int) []call {
	f := reflect.ValueOf(everyFunction[name])
	var calls []call
	for _, args := range fitting()[name] {
		c := call{name: name, f: f}
		for _, v := range args {
			c.args = append(c.args, reflect.ValueOf(v))
		}
		calls = append(calls, c)
	}
	all, longest := 1, 0
	for n := range f.Type().NumIn() {
		size := len(p[f.Type().In(n)])
		all, longest = min(all*size, 1000000), max(longest, size)
	}
	next := rand.New(rand.NewSource(int64(len(name)))).Intn
	wanted := max(many, longest)
	if name == "Fair" { // which may go 3000 steps, each with both units behind it
		wanted = many / 4
	}
	if all <= 2*wanted {
		wanted = all
	}
	for k := range wanted {
		c := call{name: name, f: f}
		for n := range f.Type().NumIn() {
			values := p[f.Type().In(n)]
			at := k % len(values)
			if all == wanted {
				at = k
				for before := range n {
					at /= len(p[f.Type().In(before)])
				}
				at %= len(values)
			} else if n > 0 || k >= len(values) {
				at = (k + next(len(values))) % len(values)
			}
			c.args = append(c.args, values[at])
		}
		calls = append(calls, c)
	}
	return calls
}

// TestP21EveryFunctionAnswersAtAnyArguments, writes into none, and answers with new memory, the same each time.
func TestP21EveryFunctionAnswersAtAnyArguments(t *testing.T) {
	p := anyValues()
	for _, name := range slices.Sorted(maps.Keys(everyFunction)) {
		calls := callsOf(p, name, 250)
		for _, c := range calls {
			c.check(t)
		}
	}
}

// TestP21AnswersHangOnNoGoroutine: all functions asked by many at a time, each in an order of its own, with the same arguments.
func TestP21AnswersHangOnNoGoroutine(t *testing.T) {
	p := anyValues()
	var calls []call
	var want, were []uint64
	for _, name := range slices.Sorted(maps.Keys(everyFunction)) {
		all := callsOf(p, name, 250)
		for n, c := range all {
			if n < 5 || n%(1+len(all)/15) == 0 {
				c.args = copiesOf(c.args, roomyCopy)
				calls, were = append(calls, c), append(were, digest(c.args, true))
				want = append(want, digest(c.answer(t, c.args), false))
			}
		}
	}
	for _, procs := range []int{1, 8} {
		before := runtime.GOMAXPROCS(procs)
		var all sync.WaitGroup
		for seed := range 6 {
			all.Go(func() {
				for _, n := range rand.New(rand.NewSource(int64(seed))).Perm(len(calls)) {
					if got := digest(calls[n].answer(t, calls[n].args), false); got != want[n] {
						t.Errorf("%s: another answer", calls[n])
					}
				}
			})
		}
		all.Wait()
		runtime.GOMAXPROCS(before)
	}
	for n, c := range calls {
		if digest(c.args, true) != were[n] {
			t.Errorf("%s was written into", c)
		}
	}
}
