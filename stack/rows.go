package stack

import (
	"slices"

	"inquest/api"
)

// Shared returns how many of the outermost frames of both are equal.
func Shared(a, b []api.Frame) int {
	n := 0
	for n < len(a) && n < len(b) && a[len(a)-1-n] == b[len(b)-1-n] {
		n++
	}
	return n
}

// Cut leaves out frames in the middle; the int is how many these are.
func Cut(l []api.Frame, most int) ([]api.Frame, int, api.Errno) {
	if e := checkFrames(l); e != api.OK {
		return nil, 0, e
	}
	if most < 1 || most > api.MaxFrames {
		return nil, 0, api.ErrRange
	}
	if len(l) <= most {
		return slices.Clone(l), 0, api.OK
	}
	first, last := (most+1)/2, most/2
	return slices.Concat(l[:first], l[len(l)-last:]), len(l) - most, api.OK
}

// Fold divides frames into runs.
func Fold(l []api.Frame) ([]Run, api.Errno) {
	if e := checkFrames(l); e != api.OK {
		return nil, e
	}
	var runs []Run
	for at := 0; at < len(l); {
		run := runAt(l, at)
		at += run.Long * run.Times
		last := len(runs) - 1
		if run.Times == 1 && last >= 0 && runs[last].Times == 1 {
			runs[last].Long++
			continue
		}
		runs = append(runs, run)
	}
	return runs, api.OK
}

// runAt returns the run that covers the most frames from a position on, the shortest of several.
func runAt(l []api.Frame, at int) Run {
	best := Run{From: at, Long: 1, Times: 1}
	rest := l[at:]
	for long := 1; long <= len(rest)/2; long++ {
		times := timesOf(rest, long)
		if times > 1 && long*times > best.Long*best.Times {
			best.Long, best.Times = long, times
		}
	}
	return best
}

// timesOf returns how often the first frames come one after the other.
func timesOf(l []api.Frame, long int) int {
	times := 1
	for end := 2 * long; end <= len(l) && slices.Equal(l[:long], l[end-long:end]); end += long {
		times++
	}
	return times
}

// Unfold returns the frames of runs, where l has those of each run once.
func Unfold(l []api.Frame, runs []Run) ([]api.Frame, api.Errno) {
	if e := checkFrames(l); e != api.OK {
		return nil, e
	}
	if e := checkRuns(runs, len(l)); e != api.OK {
		return nil, e
	}
	var result []api.Frame
	for _, run := range runs {
		for range run.Times {
			result = append(result, l[:run.Long]...)
		}
		l = l[run.Long:]
	}
	return result, api.OK
}

// checkRuns returns the first error of runs that have so many frames if each one is taken once.
func checkRuns(runs []Run, frames int) api.Errno {
	sum := 0
	for _, run := range runs {
		if run.Long < 1 || run.Long > api.MaxFrames || run.Times < 1 || run.Times > api.MaxFrames {
			return api.ErrRange
		}
		sum += run.Long
	}
	if sum != frames {
		return api.ErrForm
	}
	total := 0
	for _, run := range runs {
		if run.From != total {
			return api.ErrRange
		}
		total += run.Long * run.Times
	}
	if total > api.MaxFrames {
		return api.ErrLarge
	}
	return api.OK
}
