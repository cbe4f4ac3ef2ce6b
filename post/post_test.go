package post_test

import (
	"fmt"
	"math"
	"math/rand"
	"slices"
	"strconv"
	"testing"

	"lintel/api"
	"lintel/post"
)

// wrong is numbers below those of any letter, and beyond those of the letters that tests send.
var wrong = []int{math.MinInt, math.MinInt32, -2, -1, 1 << 20, math.MaxInt32, math.MaxInt}

func letter(from, to int, text string) api.Letter {
	return api.Letter{From: from, To: to, Text: text}
}

// letters answers different letters, as many as asked for.
func letters(many int) []api.Letter {
	var list []api.Letter
	for i := range many {
		list = append(list, letter(i, 2*i+1, "letter "+strconv.Itoa(i)))
	}
	return list
}

// show tells a letter in readable bytes, and no more of its text than a reader needs.
func show(l api.Letter) string {
	return fmt.Sprintf("{%d %d %.40q}", l.From, l.To, l.Text)
}

func filled(list ...api.Letter) *post.Post {
	p := post.New()
	for _, l := range list {
		p.Send(l)
	}
	return p
}

func checkTake(t *testing.T, p *post.Post, i int, want api.Letter) {
	t.Helper()
	if l, ok := p.Take(i); l != want || !ok {
		t.Fatalf("Take(%d): %s, %v, not %s, true", i, show(l), ok, show(want))
	}
}

func checkCopy(t *testing.T, p *post.Post, i int, want api.Letter) {
	t.Helper()
	if l, ok := p.Copy(i); l != want || !ok {
		t.Fatalf("Copy(%d): %s, %v, not %s, true", i, show(l), ok, show(want))
	}
}

func checkLose(t *testing.T, p *post.Post, i int, want bool) {
	t.Helper()
	if ok := p.Lose(i); ok != want {
		t.Fatalf("Lose(%d): %v, not %v", i, ok, want)
	}
}

// checkNone looks at a number of which there is no letter.
func checkNone(t *testing.T, p *post.Post, i int) {
	t.Helper()
	if l, ok := p.Take(i); l != (api.Letter{}) || ok {
		t.Fatalf("Take(%d): %s, %v, not no letter, false", i, show(l), ok)
	}
	if l, ok := p.Copy(i); l != (api.Letter{}) || ok {
		t.Fatalf("Copy(%d): %s, %v, not no letter, false", i, show(l), ok)
	}
	checkLose(t, p, i, false)
}

// checkBag looks at all letters of a bag, and at the numbers beside theirs; it changes nothing.
func checkBag(t *testing.T, p *post.Post, want ...api.Letter) {
	t.Helper()
	for range 2 {
		if got := p.Len(); got != len(want) {
			t.Fatalf("Len: %d, not %d", got, len(want))
		}
		for i, l := range want {
			checkCopy(t, p, i, l)
		}
		checkNone(t, p, len(want))
		for _, i := range wrong {
			checkNone(t, p, i)
		}
	}
}

// P7.1, P7.2: the chapter's example.
func TestExample(t *testing.T) {
	a, b, c := letter(0, 0, "a"), letter(0, 0, "b"), letter(0, 0, "c")
	p := filled(a, b, c)
	checkTake(t, p, 1, b)
	checkTake(t, p, 1, c)
	checkCopy(t, p, 0, a)
	checkLose(t, p, 7, false)
	checkBag(t, p, a)
}

// P7.1: a new bag is empty, and two of them never meet.
func TestNewIsEmpty(t *testing.T) {
	a, b := post.New(), post.New()
	if a == nil || b == nil || a == b {
		t.Fatal("New answered nil, or one bag twice")
	}
	checkBag(t, a)
	list := letters(3)
	a.Send(list[0])
	a.Send(list[1])
	checkBag(t, b)
	b.Send(list[2])
	checkTake(t, a, 0, list[0])
	checkBag(t, a, list[1])
	checkBag(t, b, list[2])
}

// P7.1: a letter that is sent lies behind all that are there.
func TestSendLaysBehind(t *testing.T) {
	list := letters(20)
	p := post.New()
	for i, l := range list {
		p.Send(l)
		checkBag(t, p, list[:i+1]...)
	}
}

// P7.1, P7.2: letters come out as they were sent: any numbers, any bytes, none of them, and the same letter twice.
func TestLettersStayAsTheyAre(t *testing.T) {
	list := []api.Letter{
		letter(math.MinInt, math.MaxInt, "\x00\xff\xfe"), {}, letter(-1, 0, ""), letter(3, 3, "same"),
		letter(3, 3, "same"), {}, letter(0, 0, string(make([]byte, api.MaxRecord+1))),
	}
	p := filled(list...)
	checkBag(t, p, list...)
	for i, l := range list {
		checkTake(t, p, 0, l)
		checkBag(t, p, list[i+1:]...)
	}
}

// P7.2: Take and Lose take away the letter i alone, whichever it is, and those behind it come one nearer.
func TestTakeAndLoseAnyOne(t *testing.T) {
	for many := 1; many <= 9; many++ {
		list := letters(many)
		for i, l := range list {
			rest := slices.Delete(slices.Clone(list), i, i+1)
			taken, lost := filled(list...), filled(list...)
			checkTake(t, taken, i, l)
			checkBag(t, taken, rest...)
			checkLose(t, lost, i, true)
			checkBag(t, lost, rest...)
		}
	}
}

// P7.2: a letter may be copied as often as one likes, and is taken after that as if it had not been.
func TestCopyStays(t *testing.T) {
	list := letters(3)
	p := filled(list...)
	for range 5 {
		checkCopy(t, p, 1, list[1])
	}
	checkBag(t, p, list...)
	checkTake(t, p, 1, list[1])
	checkBag(t, p, list[0], list[2])
}

// P7.1, P7.2: what is sent where letters went lies behind those that stayed, and an emptied bag takes letters again.
func TestSendAfterTake(t *testing.T) {
	list := letters(6)
	p := filled(list[:4]...)
	checkTake(t, p, 3, list[3])
	checkLose(t, p, 0, true)
	p.Send(list[4])
	checkBag(t, p, list[1], list[2], list[4])
	for range 3 {
		checkLose(t, p, 0, true)
	}
	checkBag(t, p)
	p.Send(list[5])
	checkBag(t, p, list[5])
}

// P7.2: what was answered stays as it was, whatever the bag is told later.
func TestAnswersStay(t *testing.T) {
	list := letters(4)
	p := filled(list...)
	copied, _ := p.Copy(2)
	taken, _ := p.Take(0)
	p.Lose(0)
	p.Lose(0)
	p.Send(letter(9, 9, "other"))
	if copied != list[2] || taken != list[0] {
		t.Fatalf("%v and %v, not %v and %v", copied, taken, list[2], list[0])
	}
}

// P7.3: a nil bag does nothing and has nothing.
func TestNilPost(t *testing.T) {
	var p *post.Post
	checkBag(t, p)
	p.Send(letter(1, 2, "x"))
	checkBag(t, p)
}

// Rule 1: a bag that New didn't make doesn't panic; it is empty until it is told.
func TestZeroPost(t *testing.T) {
	var p post.Post
	checkBag(t, &p)
	list := letters(2)
	p.Send(list[0])
	p.Send(list[1])
	checkTake(t, &p, 0, list[0])
	checkBag(t, &p, list[1])
}

// P7.1, P7.2: calls of all kinds, mixed, answer as a list does from which things are cut; numbers on both sides of the letters' are among them.
func TestAsAPlainList(t *testing.T) {
	for seed := range int64(60) {
		r := rand.New(rand.NewSource(seed))
		p, list := post.New(), []api.Letter(nil)
		for step := range 300 {
			i := r.Intn(len(list)+3) - 1
			there := 0 <= i && i < len(list)
			var want api.Letter
			if there {
				want = list[i]
			}
			var got api.Letter
			ok := there
			kind := r.Intn(6)
			switch kind {
			case 0:
				got, ok = p.Take(i)
			case 1:
				got, ok = p.Copy(i)
			case 2:
				got, ok = want, p.Lose(i)
			default:
				got = want
				sent := letter(r.Intn(3), r.Intn(3), strconv.Itoa(r.Intn(5)))
				p.Send(sent)
				list = append(list, sent)
			}
			if got != want || ok != there {
				t.Fatalf("seed %d, step %d: %v, %v, not %v, %v", seed, step, got, ok, want, there)
			}
			if there && (kind == 0 || kind == 2) {
				list = slices.Concat(list[:i], list[i+1:])
			}
			checkBag(t, p, list...)
		}
	}
}
