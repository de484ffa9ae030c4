package run

import "spill/api"

// MayBegin tells whether a run may have this fuel, and every number that it begins with is a value.
func MayBegin(in api.Input, fuel int) bool {
	if fuel < 0 || fuel > api.MaxFuel {
		return false
	}
	for _, v := range in.Args {
		if !isValue(v) {
			return false
		}
	}
	for word := 0; word < api.Words; word++ {
		if !isValue(in.Public[word]) || !isValue(in.Secret[word]) {
			return false
		}
	}
	return true
}

func isValue(v int) bool {
	return v >= 0 && v <= api.Top
}
