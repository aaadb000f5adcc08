package adapt

import (
	"cmp"
	"slices"

	"gusset/api"
	"gusset/long"
	"gusset/whole"
)

// chosen are the places of the fewest greatest numbers, none below 0, that together are at least theta times the sum of all.
func chosen(nums []api.Int, theta api.Rat) []int {
	left := wanted(nums, theta)
	out := []int(nil)
	for _, i := range ranged(nums) {
		if left.Mag == "" || left.Neg {
			break
		}
		left = long.Sub(left, nums[i])
		out = append(out, i)
	}
	slices.Sort(out)
	return out
}

// wanted is the least whole number that is not below theta times the sum of whole ones: no sum of some is between the two.
func wanted(nums []api.Int, theta api.Rat) api.Int {
	sum := api.Int{}
	for _, n := range nums {
		sum = long.Add(sum, n)
	}
	part := long.Mul(sum, theta.Num)
	part.Neg = part.Mag != "" // so that it is rounded to the other side
	below, _, _ := whole.Div(part, api.Int{Mag: theta.Den})
	below.Neg = false
	return below
}

// ranged are the places of numbers, none below 0, from the greatest on, of the same the lesser place first.
func ranged(nums []api.Int) []int {
	out := make([]int, len(nums))
	for i := range out {
		out[i] = i
	}
	slices.SortFunc(out, func(i, k int) int {
		a, b := nums[i].Mag, nums[k].Mag
		return cmp.Or(cmp.Compare(len(b), len(a)), cmp.Compare(b, a), cmp.Compare(i, k))
	})
	return out
}
