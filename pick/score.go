package pick

import (
	"cmp"
	"slices"

	"scree/api"
	"scree/version"
)

// due: the score from which on a level wants to be compacted. A score of it says that the level holds just what it may.
const due = 1000

// Scores tells the levels' scores.
func Scores(c api.Config, v *version.Version) []int {
	var scores []int
	for level := range last(c, v) {
		scores = append(scores, score(c, v, level))
	}
	return scores
}

// Order tells the levels that want it, in the order in which they are asked.
func Order(c api.Config, v *version.Version) []int {
	scores := Scores(c, v)
	byScore := dueLevels(scores)
	if len(scores) == 0 || len(v.Tables(0)) < c.L0Stop {
		return byScore
	}
	order := []int{0}
	for _, level := range byScore {
		if level != 0 {
			order = append(order, level)
		}
	}
	return order
}

// dueLevels tells the levels whose score is due, the greatest score first. The sort is a stable one: of equal scores the lesser level stays ahead.
func dueLevels(scores []int) []int {
	var levels []int
	for level, s := range scores {
		if s >= due {
			levels = append(levels, level)
		}
	}
	return slices.SortedStableFunc(slices.Values(levels), func(a, b int) int { return cmp.Compare(scores[b], scores[a]) })
}

// last tells the number of the last level. It stays within the version's levels, whatever the configuration says, so that every call ends.
func last(c api.Config, v *version.Version) int { return max(1, min(c.Levels, v.Levels())) - 1 }

// score tells how much of what it may hold a level holds, in thousandths.
func score(c api.Config, v *version.Version, level int) int {
	if level == 0 {
		return share(len(v.Tables(0)), c.L0Trigger)
	}
	return share(v.Weight(level), limit(c, level))
}

// limit tells what a level from 1 on may weigh.
func limit(c api.Config, level int) int {
	most := c.Base
	for range level - 1 {
		most *= c.Mult
	}
	return most
}

// share tells how many thousandths of most there are; of a most that is no bound none, for a configuration that isn't right may not end in a division by 0.
func share(has, most int) int {
	if most <= 0 {
		return 0
	}
	return due * has / most
}
