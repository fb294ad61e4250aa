package rate

import "inquest/api"

// CheckBucket returns the error of a bucket.
func CheckBucket(b Bucket) api.Errno {
	if !within(b.Size, 1, MaxSizes) || !within(b.Add, 1, MaxSizes) || !within(b.Every, 1, api.DayLong) {
		return api.ErrRange
	}
	return api.OK
}

// Full returns the level of a bucket that is full at a moment.
func Full(b Bucket, at int) (Level, api.Errno) {
	if !isMoment(at) {
		return Level{}, api.ErrRange
	}
	return full(b, at), api.OK
}

func full(b Bucket, at int) Level { return Level{Has: b.Size, At: at} }

// Pour returns the level at a later moment.
func Pour(b Bucket, x Level, at int) (Level, api.Errno) {
	if e := checkPour(b, x, at); e != api.OK {
		return Level{}, e
	}
	return pour(b, x, at), api.OK
}

func checkPour(b Bucket, x Level, at int) api.Errno {
	if e := checkLevel(b, x); e != api.OK {
		return e
	}
	switch {
	case !isMoment(at):
		return api.ErrRange
	case at < x.At:
		return api.ErrOrder
	}
	return api.OK
}

// checkLevel returns the error of a bucket, and then that of its level.
func checkLevel(b Bucket, x Level) api.Errno {
	if e := CheckBucket(b); e != api.OK {
		return e
	}
	// A level is right if no limit changes anything of it.
	if x != (Level{limited(x.Has, b.Size), limited(x.At, api.MaxMoment), limited(x.Rest, b.Every-1)}) {
		return api.ErrForm
	}
	return api.OK
}

// limited returns the number from 0 to most that is next to n.
func limited(n, most int) int { return max(0, min(n, most)) }

// pour needs no check of its sums: MaxMoment times MaxSizes is less than half of the greatest int.
func pour(b Bucket, x Level, at int) Level {
	gone := at - x.At + x.Rest
	came := gone / b.Every * b.Add
	return Level{Has: min(b.Size, x.Has+came), At: at, Rest: gone % b.Every}
}

// Take returns the level at a later moment, less n if there are as many; false: there are not, and it has all that it had.
func Take(b Bucket, x Level, at, n int) (Level, bool, api.Errno) {
	if e := checkPour(b, x, at); e != api.OK {
		return Level{}, false, e
	}
	if !within(n, 0, MaxSizes) {
		return Level{}, false, api.ErrRange
	}
	y, is := take(b, x, at, n)
	return y, is, api.OK
}

func take(b Bucket, x Level, at, n int) (Level, bool) {
	y := pour(b, x, at)
	if y.Has < n {
		return y, false
	}
	y.Has -= n
	return y, true
}

// Wait returns after how many seconds a bucket has n.
func Wait(b Bucket, x Level, n int) (int, api.Errno) {
	if e := checkLevel(b, x); e != api.OK {
		return 0, e
	}
	switch {
	case !within(n, 0, MaxSizes):
		return 0, api.ErrRange
	case n > b.Size:
		return 0, api.ErrNone
	}
	seconds := wait(b, x, n)
	if seconds > api.MaxMoment-x.At {
		return 0, api.ErrFull
	}
	return seconds, api.OK
}

func wait(b Bucket, x Level, n int) int {
	if n <= x.Has {
		return 0
	}
	times := (n - x.Has + b.Add - 1) / b.Add
	return times*b.Every - x.Rest
}
