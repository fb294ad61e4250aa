package stack

import "inquest/api"

// Align returns pairs of positions of frames that are alike, as many as possible.
func Align(a, b []api.Frame) ([][2]int, api.Errno) {
	if e := checkBoth(a, b); e != api.OK {
		return nil, e
	}
	most := mostPairs(a, b)
	var pairs [][2]int
	j := 0
	for i := range a {
		k := firstAlike(a[i], b, j)
		// The first frame that is alike leaves the most behind it: if it leaves too little, so does each later one.
		if k < len(b) && 1+most[i+1][k+1] == most[i][j] {
			pairs = append(pairs, [2]int{i, k})
			j = k + 1
		}
	}
	return pairs, api.OK
}

// Near returns how much two rows have in common, from 0 to 1000.
func Near(a, b []api.Frame) (int, api.Errno) {
	pairs, e := Align(a, b)
	if e != api.OK {
		return 0, e
	}
	if len(a)+len(b) == 0 {
		return 1000, api.OK
	}
	return 2000 * len(pairs) / (len(a) + len(b)), api.OK
}

// alike leaves out what changes when a program is changed elsewhere, or moved.
func alike(f, g api.Frame) bool {
	return f.Module == g.Module && f.Func == g.Func && f.File == g.File
}

// firstAlike returns the first position from from on of a frame that is alike, or the number of frames.
func firstAlike(f api.Frame, l []api.Frame, from int) int {
	for from < len(l) && !alike(f, l[from]) {
		from++
	}
	return from
}

// mostPairs returns how many pairs there can be at most from each position in a and each one in b on.
func mostPairs(a, b []api.Frame) [][]int {
	most := make([][]int, len(a)+1)
	most[len(a)] = make([]int, len(b)+1)
	for i := len(a) - 1; i >= 0; i-- {
		most[i] = make([]int, len(b)+1)
		for j := len(b) - 1; j >= 0; j-- {
			if alike(a[i], b[j]) {
				most[i][j] = 1 + most[i+1][j+1]
			} else {
				most[i][j] = max(most[i+1][j], most[i][j+1])
			}
		}
	}
	return most
}
