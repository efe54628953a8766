package chart_test

import (
	"maps"
	"math"
	"testing"

	"pyx/api"
	"pyx/chart"
)

// accounts are the kinds, and which are with another entity, of all accounts that there are, written out.
var accounts = []struct {
	kind int
	with bool
}{
	0:  {chart.Asset, false},
	1:  {chart.Asset, false},
	2:  {chart.Asset, false},
	3:  {chart.Asset, true},
	4:  {chart.Liab, false},
	5:  {chart.Liab, false},
	6:  {chart.Liab, true},
	7:  {chart.Own, false},
	8:  {chart.Own, false},
	9:  {chart.Flow, false},
	10: {chart.Flow, false},
	11: {chart.Flow, false},
	12: {chart.Flow, false},
	13: {chart.Flow, false},
	14: {chart.Flow, false},
	15: {chart.Flow, false},
}

// others are numbers of which there is no account; those past 32 bits end in an account's number.
var others = []int{
	math.MinInt, math.MinInt + 3, math.MinInt + 6, math.MinInt32, -1<<32 + 3, -256, -16, -13, -10, -9, -8, -7, -6, -5, -4, -3, -2, -1,
	16, 17, 18, 19, 22, 24, 31, 32, 35, 38, 64, 255, 256, 259, 262, 264, 1 << 16, 1<<16 + 3, math.MaxInt32, 1 << 32, 1<<32 + 3, 1<<32 + 6, 1<<32 + 8,
	math.MaxInt - 12, math.MaxInt - 1, math.MaxInt,
}

func TestExample(t *testing.T) {
	if got := chart.Kind(9); got != chart.Flow {
		t.Errorf("11.1: Kind(9) = %d, want Flow", got)
	}
}

func TestConstants(t *testing.T) {
	got := [4]int{chart.Asset, chart.Liab, chart.Own, chart.Flow}
	if got != [4]int{1, 2, 3, 4} {
		t.Errorf("11.1: Asset, Liab, Own, Flow = %d, want 1 to 4", got)
	}
	seen := map[int]int{0: -1} // 0 is the kind of no account
	for i, kind := range got {
		if at, ok := seen[kind]; ok {
			t.Errorf("11.1: constants %d and %d are the same: %d", at, i, kind)
		}
		seen[kind] = i
	}
}

func TestAccounts(t *testing.T) {
	if len(accounts) != api.Accounts {
		t.Fatalf("there are %d accounts, the table has %d", api.Accounts, len(accounts))
	}
	for acct, want := range accounts {
		if got := chart.Kind(acct); got != want.kind {
			t.Errorf("11.1: Kind(%d) = %d, want %d", acct, got, want.kind)
		}
		if got := chart.IsWith(acct); got != want.with {
			t.Errorf("11.1: IsWith(%d) = %v, want %v", acct, got, want.with)
		}
	}
}

func TestOthers(t *testing.T) {
	for _, acct := range others {
		if got := chart.Kind(acct); got != 0 {
			t.Errorf("11.1: Kind(%d) = %d, want 0", acct, got)
		}
		if chart.IsWith(acct) {
			t.Errorf("11.1: IsWith(%d) = true, want false", acct)
		}
	}
}

func TestRetained(t *testing.T) {
	acct := chart.Retained()
	if acct != 8 {
		t.Errorf("11.1: Retained() = %d, want 8", acct)
	}
	if got := chart.Kind(acct); got != chart.Own {
		t.Errorf("11.1: Kind(Retained()) = %d, want Own", got)
	}
	if chart.IsWith(acct) {
		t.Error("11.1: IsWith(Retained()) = true, want false")
	}
}

// TestAround holds each number from far below the accounts to far past them against how many of each kind there are.
func TestAround(t *testing.T) {
	kinds := map[int]int{}
	with := 0
	for acct := -1 << 17; acct <= 1<<17; acct++ {
		kinds[chart.Kind(acct)]++
		if chart.IsWith(acct) {
			with++
		}
	}
	want := map[int]int{0: 1<<18 + 1 - api.Accounts}
	// One by one: as keys of one literal two kinds that are the same would not build.
	want[chart.Asset] = 4
	want[chart.Liab] = 3
	want[chart.Own] = 2
	want[chart.Flow] = 7
	if !maps.Equal(kinds, want) {
		t.Errorf("11.1: numbers of each kind = %v, want %v", kinds, want)
	}
	if with != 2 {
		t.Errorf("11.1: IsWith of %d numbers, want 2", with)
	}
}

// TestAgain: an answer hangs on the argument alone, whatever was asked ahead of it.
func TestAgain(t *testing.T) {
	for acct, want := range accounts {
		for _, other := range others {
			chart.Kind(other)
			chart.IsWith(other)
			if got := chart.Kind(acct); got != want.kind {
				t.Fatalf("R4: Kind(%d) behind %d = %d, want %d", acct, other, got, want.kind)
			}
			if got := chart.IsWith(acct); got != want.with {
				t.Fatalf("R4: IsWith(%d) behind %d = %v, want %v", acct, other, got, want.with)
			}
		}
	}
}
