package script

import (
	"math"
	"strconv"

	"carousel/api"
	"carousel/event"
	"carousel/req"
)

const (
	maxTicks  = 1000
	maxNumber = math.MaxUint8
	maxLetter = math.MaxUint32

	// It stands for a node where a letter goes to all hosts.
	toAll     = -1
	toAllWord = "all"
)

// reader reads the words behind a line's first one; false, if they aren't of its form.
type reader func(words []string) (step, bool)

// form reads one word as a number; false, if it isn't of that form.
type form func(word string) (int64, bool)

// readers read lines, by their first words.
func readers() map[string]reader {
	number := upTo(maxNumber)
	return map[string]reader{
		"tick": line(does(func(x *scene, v []int64) api.Errno {
			return x.ticks(v[0])
		}), upTo(maxTicks)),
		"flow": line(does(func(x *scene, _ []int64) api.Errno {
			return x.ring.Do(event.Event{Kind: event.Flow})
		})),

		"deliver": line(atWay(event.Deliver), number),
		"drop":    line(atWay(event.Drop), number),
		"down":    line(atWay(event.Down), number),
		"up":      line(atWay(event.Up), number),
		"cut":     line(atLine(event.Down), number),
		"mend":    line(atLine(event.Up), number),

		"fs": line(asks(req.FS), number, port),
		"ms": line(asks(req.MS), number, port),
		"clear": line(does(func(x *scene, v []int64) api.Errno {
			return x.order(req.Clear, v[0], api.West)
		}), number),

		"send": line(does(func(x *scene, v []int64) api.Errno {
			return x.board.Send(x.ring, letter(v))
		}), number, orAll(number), upTo(maxLetter)),
		"came": line(func(x *scene, v []int64) []string {
			return x.came(letter(v), int(v[3]))
		}, number, orAll(number), upTo(maxLetter), number),

		"lines": line(func(x *scene, _ []int64) []string {
			return x.lines()
		}),
		"counts": line(func(x *scene, v []int64) []string {
			return x.counts(int(v[0]))
		}, number),
	}
}

// line reads a line that has a word of each of these forms behind its first one, and does that with their numbers.
func line(do deed, forms ...form) reader {
	return func(words []string) (step, bool) {
		if len(words) != len(forms) {
			return nil, false
		}
		v := make([]int64, len(forms))
		for i, reads := range forms {
			n, ok := reads(words[i])
			if !ok {
				return nil, false
			}
			v[i] = n
		}
		return func(x *scene) []string { return do(x, v) }, true
	}
}

// upTo reads digits, up to a limit.
func upTo(limit uint32) form {
	return func(word string) (int64, bool) {
		if len(word) > 1 && word[0] == '0' {
			return 0, false
		}
		// Of an unsigned number no sign is read, and none that is too great for its type.
		n, err := strconv.ParseUint(word, 10, 32)
		if err != nil || n > uint64(limit) {
			return 0, false
		}
		return int64(n), true
	}
}

// orAll reads a word as another form does, or the one that stands for all hosts.
func orAll(reads form) form {
	return func(word string) (int64, bool) {
		if word == toAllWord {
			return toAll, true
		}
		return reads(word)
	}
}

// port reads a ring port.
func port(word string) (int64, bool) {
	switch word {
	case "west":
		return api.West, true
	case "east":
		return api.East, true
	}
	return 0, false
}
