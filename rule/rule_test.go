package rule_test

import (
	"math"
	"reflect"
	"slices"
	"testing"

	"pyx/api"
	"pyx/dec"
	"pyx/rule"
)

func allow(role, verb, ent int) api.Rule {
	return api.Rule{Tag: api.Allow, Role: role, Verb: verb, Ent: ent}
}

func deny(role, verb, ent int) api.Rule {
	return api.Rule{Tag: api.Deny, Role: role, Verb: verb, Ent: ent}
}

func release(role, group, line int) api.Rule {
	return api.Rule{Tag: api.Release, Role: role, Ent: -1, Group: group, Line: line, Unit: dec.Of(100, 0), To: l(3, 1)}
}

func l(set uint64, level int) api.Label {
	return api.Label{Set: set, Level: level}
}

// small is a policy of three entities, two groups, four principals, four roles and a rule of each kind.
func small() api.Policy {
	return api.Policy{
		Ents:   []api.Ent{{Level: 1, Scale: 2, Parent: -1, Share: 10000}, {Level: 2, Scale: 0, Parent: 0, Share: 6000}, {Level: 0, Scale: 4, Parent: 1, Share: 1}},
		Groups: []uint64{5, 6},
		Who:    []api.Who{{Clear: l(7, 3), Roles: 4}, {Clear: l(3, 1), Roles: 1}, {Roles: 8}, {Clear: l(255, 0)}},
		Up:     []int{-1, 0, 1, -1},
		Rules:  []api.Rule{release(1, 1, api.Assets), allow(0, api.Read, -1), deny(1, api.Book, 2), release(3, 0, api.Income)},
	}
}

// big has as many of all as may be.
func big() api.Policy {
	p := api.Policy{
		Ents:   []api.Ent{{Level: 3, Scale: 4, Parent: -1, Share: 10000}},
		Groups: []uint64{1, 128, 255, 0b10010110},
		Up:     []int{-1, 0, 1, 1, 2, -1, 5, 0},
	}
	for k := 1; k < 8; k++ {
		p.Ents = append(p.Ents, api.Ent{Level: k % 4, Scale: k % 5, Parent: k - 1, Share: 1 + k*1428})
	}
	for k := range 8 {
		p.Who = append(p.Who, api.Who{Clear: l(255, 3), Roles: []uint64{1, 2, 4, 8, 16, 32, 64, 255}[k]})
	}
	for k := range 8 {
		p.Rules = append(p.Rules, allow(k, api.Read, k), deny(k, api.Book, 7-k), allow(k, api.Manage, -1), release(k, k%4, k%6))
	}
	return p
}

// base is a policy that is right, by a name.
type base struct {
	name  string
	fresh func() api.Policy
}

func bases() []base {
	return []base{{"small", small}, {"big", big}}
}

// ends are numbers that nothing has, of at most 32.
var ends = []int{math.MinInt, math.MinInt + 1, -1 << 32, -65, -64, -63, -8, -2, -1, 32, 33, 63, 64, 65, 127, 128, 256, 10000, 1 << 32, 1<<32 + 1, math.MaxInt - 1, math.MaxInt}

// judge holds Right of p, and, of one that is not right, that each other call answers nothing.
func judge(t *testing.T, name string, p api.Policy, want bool) {
	t.Helper()
	if got := rule.Right(p); got != want {
		t.Errorf("10.1: %s: Right = %t", name, got)
	}
	if !want {
		silent(t, name, p)
	}
}

// silent: no call answers anything, of numbers that there may be.
func silent(t *testing.T, name string, p api.Policy) {
	t.Helper()
	for n := range 8 {
		if rule.Label(p, n) != (api.Label{}) || rule.Group(p, n) != (api.Label{}) {
			t.Errorf("10.2: %s: Label or Group %d of what is not right", name, n)
		}
		for _, verb := range []int{api.Read, api.Book, api.Manage} {
			for ent := range 8 {
				if rule.May(p, n, verb, ent) {
					t.Errorf("10.2: %s: May(%d, %d, %d) of what is not right", name, n, verb, ent)
				}
			}
		}
		if rule.Sees(p, n, api.Label{}) {
			t.Errorf("10.2: %s: Sees(%d) of what is not right", name, n)
		}
		for _, k := range []int{0, 3, 31} {
			if rule.Releases(p, n, k) {
				t.Errorf("10.2: %s: Releases(%d, %d) of what is not right", name, n, k)
			}
		}
	}
}

func TestExample(t *testing.T) {
	for _, b := range bases() {
		p := b.fresh()
		p.Rules = nil
		judge(t, b.name, p, true)
		for who := range p.Who {
			for verb := range 5 {
				for ent := range p.Ents {
					if rule.May(p, who, verb, ent) {
						t.Errorf("10.2: no rules: May(%d, %d, %d) = true", who, verb, ent)
					}
				}
			}
		}
	}
}

func TestRight(t *testing.T) {
	for _, b := range bases() {
		judge(t, b.name, b.fresh(), true)
	}
	judge(t, "nothing at all", api.Policy{}, false)
	least := api.Policy{Ents: []api.Ent{{Parent: -1, Share: 10000}}, Who: []api.Who{{}}}
	judge(t, "the least one", least, true)
	least.Groups, least.Up, least.Rules = []uint64{}, []int{}, []api.Rule{}
	judge(t, "the least one, empty lists", least, true)
	least.Who[0].Roles = 255
	judge(t, "bits of roles that are not there", least, true)
	p := small()
	p.Groups, p.Rules = nil, slices.DeleteFunc(p.Rules, func(r api.Rule) bool { return r.Tag == api.Release })
	judge(t, "no group", p, true)
	p = small()
	p.Rules = nil
	judge(t, "no rule", p, true)
	p.Up = nil
	judge(t, "no role, no rule", p, true)
}

// TestRightOnly: a rule without roles, one of Release without groups.
func TestRightOnly(t *testing.T) {
	for _, r := range small().Rules {
		p := small()
		p.Up, p.Rules = nil, []api.Rule{r}
		judge(t, "a rule without roles", p, false)
		p = small()
		p.Groups, p.Rules = nil, []api.Rule{r}
		judge(t, "a rule without groups", p, r.Tag != api.Release)
	}
}

// TestRightCount: as many of each part as may be, and more.
func TestRightCount(t *testing.T) {
	for _, n := range []int{0, 1, 2, 3, 4, 5, 7, 8, 9, 16, 31, 32, 33, 64, 65, 256, 257, 65536} {
		p := api.Policy{Ents: slices.Repeat([]api.Ent{{Parent: -1, Share: 10000}}, n), Who: []api.Who{{}}}
		judge(t, "roots", p, n >= 1 && n <= 8)
		for k := 1; k < n; k++ {
			p.Ents[k] = api.Ent{Parent: k - 1, Share: 5000}
		}
		judge(t, "entities in a line", p, n >= 1 && n <= 8)
		p = small()
		p.Rules, p.Groups = nil, slices.Repeat([]uint64{7}, n)
		judge(t, "groups", p, n <= 4)
		p = small()
		p.Who = slices.Repeat(p.Who[:1], n)
		judge(t, "principals", p, n >= 1 && n <= 8)
		p = small()
		p.Rules, p.Up = nil, slices.Repeat([]int{-1}, n)
		judge(t, "roles", p, n <= 8)
		for _, r := range small().Rules {
			p = small()
			p.Rules = slices.Repeat([]api.Rule{r}, n)
			judge(t, "rules", p, n <= 32)
		}
	}
}

// fill puts the field of the k-th one of a policy to a number.
type fill struct {
	name      string
	set       func(p *api.Policy, k, n int)
	low, high int // what may be
}

// holds puts the field to each end of what may be, one beyond, and to numbers far off.
func holds(t *testing.T, f fill, fresh func() api.Policy, k int) {
	t.Helper()
	for _, n := range append([]int{f.low - 1, f.low, f.low + 1, f.high - 1, f.high, f.high + 1, 0}, ends...) {
		p := fresh()
		f.set(&p, k, n)
		judge(t, f.name, p, n >= f.low && n <= f.high)
	}
}

// TestRightEnt: each field of each entity, at each end of what may be and one beyond.
func TestRightEnt(t *testing.T) {
	for _, b := range bases() {
		for k := range b.fresh().Ents {
			holds(t, fill{"an entity's Level", func(p *api.Policy, k, n int) { p.Ents[k].Level = n }, 0, 3}, b.fresh, k)
			holds(t, fill{"an entity's Scale", func(p *api.Policy, k, n int) { p.Ents[k].Scale = n }, 0, 4}, b.fresh, k)
			holds(t, fill{"a Parent, of the whole of a share", func(p *api.Policy, k, n int) { p.Ents[k].Parent, p.Ents[k].Share = n, 10000 }, -1, k - 1}, b.fresh, k)
			holds(t, fill{"a Share of one without a Parent", func(p *api.Policy, k, n int) { p.Ents[k].Parent, p.Ents[k].Share = -1, n }, 10000, 10000}, b.fresh, k)
			if k > 0 {
				holds(t, fill{"a Parent, of a half", func(p *api.Policy, k, n int) { p.Ents[k].Parent, p.Ents[k].Share = n, 5000 }, 0, k - 1}, b.fresh, k)
				holds(t, fill{"a Share", func(p *api.Policy, k, n int) { p.Ents[k].Share = n }, 1, 10000}, b.fresh, k)
			}
		}
	}
}

// TestRightGroup: a group of no entity, of each one that there is, and of each bit beyond them, alone and with others.
func TestRightGroup(t *testing.T) {
	for _, b := range bases() {
		for k := range b.fresh().Groups {
			p := b.fresh()
			many := len(p.Ents)
			p.Groups[k] = 0
			judge(t, "a group of no entity", p, false)
			p.Groups[k] = math.MaxUint64
			judge(t, "a group of all bits", p, false)
			bit := uint64(1)
			for ent := range 64 {
				p.Groups[k] = bit
				judge(t, "a group of one", p, ent < many)
				p.Groups[k] = 1 | bit
				judge(t, "a group of the first one and another", p, ent < many)
				bit *= 2
			}
			p.Groups[k] = []uint64{3: 7, 8: 255}[many]
			judge(t, "a group of all", p, true)
		}
	}
}

// TestRightWho: what each principal may see, and its roles.
func TestRightWho(t *testing.T) {
	for _, b := range bases() {
		for k := range b.fresh().Who {
			holds(t, fill{"a Clear's Level", func(p *api.Policy, k, n int) { p.Who[k].Clear.Level = n }, 0, 3}, b.fresh, k)
			holds(t, fill{"a Clear's Set", func(p *api.Policy, k, n int) { p.Who[k].Clear.Set = uint64(n) }, 0, 255}, b.fresh, k)
			holds(t, fill{"Roles", func(p *api.Policy, k, n int) { p.Who[k].Roles = uint64(n) }, 0, 255}, b.fresh, k)
			bit := uint64(1)
			for place := range 64 {
				p := b.fresh()
				p.Who[k].Roles = bit
				judge(t, "Roles of one bit", p, place < 8)
				p = b.fresh()
				p.Who[k].Clear.Set |= bit
				judge(t, "a Clear of one bit more", p, place < 8)
				bit *= 2
			}
		}
	}
}

// TestRightUp: roles that are not right.
func TestRightUp(t *testing.T) {
	for _, b := range bases() {
		for k := range b.fresh().Up {
			holds(t, fill{"a role's parent", func(p *api.Policy, k, n int) { p.Up[k] = n }, -1, k - 1}, b.fresh, k)
		}
		p := b.fresh()
		p.Up = p.Up[:len(p.Up)-1]
		judge(t, "a rule of the role behind the last", p, false)
	}
}

// TestRightRule: each number of each kind of rule, just below and just above what may be; a Tag that is none.
func TestRightRule(t *testing.T) {
	for _, b := range bases() {
		p := b.fresh()
		for k, r := range p.Rules {
			holds(t, fill{"a rule's Role", func(p *api.Policy, k, n int) { p.Rules[k].Role = n }, 0, len(p.Up) - 1}, b.fresh, k)
			for _, tag := range append([]int{0, 4, 5}, ends...) {
				p := b.fresh()
				p.Rules[k].Tag = tag
				judge(t, "a Tag that is none", p, false)
			}
			if r.Tag == api.Release {
				holds(t, fill{"a Verb of Release", func(p *api.Policy, k, n int) { p.Rules[k].Verb = n }, 0, 0}, b.fresh, k)
				holds(t, fill{"an Ent of Release", func(p *api.Policy, k, n int) { p.Rules[k].Ent = n }, -1, -1}, b.fresh, k)
				holds(t, fill{"a Group", func(p *api.Policy, k, n int) { p.Rules[k].Group = n }, 0, len(p.Groups) - 1}, b.fresh, k)
				holds(t, fill{"a Line", func(p *api.Policy, k, n int) { p.Rules[k].Line = n }, 0, 5}, b.fresh, k)
				holds(t, fill{"a To's Set", func(p *api.Policy, k, n int) { p.Rules[k].To.Set = uint64(n) }, 0, 255}, b.fresh, k)
				holds(t, fill{"a To's Level", func(p *api.Policy, k, n int) { p.Rules[k].To.Level = n }, 0, 3}, b.fresh, k)
				continue
			}
			for _, tag := range []int{api.Allow, api.Deny} {
				fresh := func() api.Policy {
					p := b.fresh()
					p.Rules[k].Tag = tag
					return p
				}
				holds(t, fill{"a Verb", func(p *api.Policy, k, n int) { p.Rules[k].Verb = n }, 1, 3}, fresh, k)
				holds(t, fill{"an Ent", func(p *api.Policy, k, n int) { p.Rules[k].Ent = n }, -1, len(p.Ents) - 1}, fresh, k)
				holds(t, fill{"a Group that must be zero", func(p *api.Policy, k, n int) { p.Rules[k].Group = n }, 0, 0}, fresh, k)
				holds(t, fill{"a Line that must be zero", func(p *api.Policy, k, n int) { p.Rules[k].Line = n }, 0, 0}, fresh, k)
				holds(t, fill{"a To's Set that must be zero", func(p *api.Policy, k, n int) { p.Rules[k].To.Set = uint64(n) }, 0, 0}, fresh, k)
				holds(t, fill{"a To's Level that must be zero", func(p *api.Policy, k, n int) { p.Rules[k].To.Level = n }, 0, 0}, fresh, k)
				holds(t, fill{"a Unit's Scale that must be zero", func(p *api.Policy, k, n int) { p.Rules[k].Unit.Scale = n }, 0, 0}, fresh, k)
				holds(t, fill{"a Unit's lower word that must be zero", func(p *api.Policy, k, n int) { p.Rules[k].Unit.C[0] = uint64(n) }, 0, 0}, fresh, k)
				holds(t, fill{"a Unit's higher word that must be zero", func(p *api.Policy, k, n int) { p.Rules[k].Unit.C[1] = uint64(n) }, 0, 0}, fresh, k)
				p := fresh()
				p.Rules[k].Unit.Neg = true
				judge(t, "a Unit's Neg that must be zero", p, false)
			}
		}
	}
}

// unit is a rule's Unit, and whether it may be one of Release.
type unit struct {
	d    api.Dec
	want bool
}

func units() []unit {
	// ten to 30, that has one digit too many, and the number below it.
	over, most := [2]uint64{5076944270305263616, 54210108624}, [2]uint64{5076944270305263615, 54210108624}
	return []unit{
		{api.Dec{}, false},
		{dec.Of(0, 2), false},
		{api.Dec{Neg: true}, false},
		{dec.Of(-1, 0), false},
		{dec.Of(-5, 2), false},
		{dec.Of(math.MinInt, 0), false},
		{dec.Of(1, 0), true},
		{dec.Of(1, 1), true},
		{dec.Of(1, 2), true},
		{dec.Of(5, 3), false},
		{dec.Of(1000, 3), false},
		{dec.Of(1, 4), false},
		{dec.Of(1, 9), false},
		{dec.Of(math.MaxInt, 2), true},
		{api.Dec{C: [2]uint64{1}, Scale: 10}, false},
		{api.Dec{C: [2]uint64{1}, Scale: -1}, false},
		{api.Dec{C: [2]uint64{1}, Scale: math.MinInt}, false},
		{api.Dec{C: [2]uint64{1}, Scale: math.MaxInt}, false},
		{api.Dec{C: [2]uint64{0, 1}}, true},
		{api.Dec{C: most, Scale: 2}, true},
		{api.Dec{Neg: true, C: most}, false},
		{api.Dec{C: over}, false},
		{api.Dec{C: over, Scale: 2}, false},
		{api.Dec{Neg: true, C: over}, false},
		{api.Dec{C: [2]uint64{math.MaxUint64, math.MaxUint64}}, false},
	}
}

// TestRightUnit: of Release a Unit that is right and above 0, of a Scale of at most 2; of the others just the zero one.
func TestRightUnit(t *testing.T) {
	for _, b := range bases() {
		for k, r := range b.fresh().Rules {
			for _, u := range units() {
				p := b.fresh()
				p.Rules[k].Unit = u.d
				want := u.want
				if r.Tag != api.Release {
					want = u.d == api.Dec{}
				}
				judge(t, "a Unit", p, want)
			}
		}
	}
}

// TestMay: what rules that one has the role of come to, whatever their order.
func TestMay(t *testing.T) {
	const verb = api.Book
	cases := []struct {
		name  string
		rules []api.Rule
		want  [2]bool // of entity 0, of entity 1
	}{
		{"none", nil, [2]bool{false, false}},
		{"allow any", []api.Rule{allow(0, verb, -1)}, [2]bool{true, true}},
		{"deny any", []api.Rule{deny(0, verb, -1)}, [2]bool{false, false}},
		{"allow one", []api.Rule{allow(0, verb, 0)}, [2]bool{true, false}},
		{"deny one", []api.Rule{deny(0, verb, 0)}, [2]bool{false, false}},
		{"allow and deny any", []api.Rule{allow(0, verb, -1), deny(0, verb, -1)}, [2]bool{false, false}},
		{"allow and deny one", []api.Rule{allow(0, verb, 0), deny(0, verb, 0)}, [2]bool{false, false}},
		{"allow any twice", []api.Rule{allow(0, verb, -1), allow(0, verb, -1)}, [2]bool{true, true}},
		{"allow one twice", []api.Rule{allow(0, verb, 1), allow(0, verb, 1)}, [2]bool{false, true}},
		{"allow any, deny one", []api.Rule{allow(0, verb, -1), deny(0, verb, 0)}, [2]bool{false, true}},
		{"deny any, allow one", []api.Rule{deny(0, verb, -1), allow(0, verb, 0)}, [2]bool{true, false}},
		{"allow any, allow one", []api.Rule{allow(0, verb, -1), allow(0, verb, 0)}, [2]bool{true, true}},
		{"deny any, deny one", []api.Rule{deny(0, verb, -1), deny(0, verb, 0)}, [2]bool{false, false}},
		{"deny any, allow and deny one", []api.Rule{deny(0, verb, -1), allow(0, verb, 0), deny(0, verb, 0)}, [2]bool{false, false}},
		{"allow and deny any, allow one", []api.Rule{allow(0, verb, -1), deny(0, verb, -1), allow(0, verb, 1)}, [2]bool{false, true}},
		{"each its own", []api.Rule{allow(0, verb, 0), deny(0, verb, 1), allow(0, verb, -1)}, [2]bool{true, false}},
		{"other verbs", []api.Rule{allow(0, api.Read, -1), allow(0, api.Manage, 0), allow(0, api.Read, 1)}, [2]bool{false, false}},
		{"deny of other verbs", []api.Rule{allow(0, verb, -1), deny(0, api.Read, -1), deny(0, api.Manage, 0), deny(0, api.Read, 1)}, [2]bool{true, true}},
		{"own of other verbs", []api.Rule{allow(0, verb, -1), allow(0, api.Read, 0), deny(0, verb, 2)}, [2]bool{true, true}},
		{"a role that one has not", []api.Rule{allow(1, verb, -1), allow(1, verb, 0)}, [2]bool{false, false}},
		{"deny of a role that one has not", []api.Rule{allow(0, verb, -1), deny(1, verb, -1), deny(1, verb, 0)}, [2]bool{true, true}},
		{"own of a role that one has not", []api.Rule{deny(0, verb, -1), allow(1, verb, 0), allow(1, verb, -1)}, [2]bool{false, false}},
		{"a release", []api.Rule{release(0, 0, 0), release(0, 0, 1)}, [2]bool{false, false}},
		{"a release beside allow", []api.Rule{allow(0, verb, -1), release(0, 0, 0)}, [2]bool{true, true}},
		{"a release beside own allow", []api.Rule{deny(0, verb, -1), release(0, 0, 0), allow(0, verb, 1)}, [2]bool{false, true}},
	}
	for _, c := range cases {
		eachOrder(c.rules, func(rules []api.Rule) {
			p := small()
			p.Up, p.Rules = []int{-1, -1}, rules
			p.Who[0].Roles = 1
			judge(t, c.name, p, true)
			for ent, want := range c.want {
				if got := rule.May(p, 0, verb, ent); got != want {
					t.Errorf("10.2: %s: %+v: May(0, Book, %d) = %t", c.name, rules, ent, got)
				}
			}
		})
	}
}

// eachOrder calls do with the rules in each order; do must not keep them.
func eachOrder(rules []api.Rule, do func(rules []api.Rule)) {
	list := slices.Clone(rules)
	var from func(at int)
	from = func(at int) {
		if at >= len(list) {
			do(list)
			return
		}
		for k := at; k < len(list); k++ {
			list[at], list[k] = list[k], list[at]
			from(at + 1)
			list[at], list[k] = list[k], list[at]
		}
	}
	from(0)
}

// TestMayVerb: a rule of a verb speaks of that one alone; what is no verb none may.
func TestMayVerb(t *testing.T) {
	for _, of := range []int{api.Read, api.Book, api.Manage} {
		for ent := -1; ent < 3; ent++ {
			p := small()
			p.Rules = []api.Rule{allow(0, of, ent), release(0, 0, 0)}
			for _, verb := range append([]int{0, 1, 2, 3, 4, 5}, ends...) {
				for asked := range 3 {
					want := verb == of && (ent == -1 || ent == asked)
					if got := rule.May(p, 1, verb, asked); got != want {
						t.Errorf("10.2: Allow of verb %d, entity %d: May(%d, %d) = %t", of, ent, verb, asked, got)
					}
				}
			}
		}
	}
}

// TestMayRole: a role that one has by its roles' parents counts as its own ones do; other ones don't.
func TestMayRole(t *testing.T) {
	up := []int{-1, 0, 1, -1, 2}
	has := [][]int{{0}, {0, 1}, {0, 1, 2}, {3}, {0, 1, 2, 4}}
	for of := range up {
		for own, list := range has {
			p := small()
			p.Up = up
			p.Who[2].Roles = []uint64{1, 2, 4, 8, 16}[own]
			p.Rules = []api.Rule{allow(of, api.Read, 1)}
			there := slices.Contains(list, of)
			if got := rule.May(p, 2, api.Read, 1); got != there {
				t.Errorf("10.2: Allow to role %d: one of role %d: May = %t", of, own, got)
			}
			p.Rules = []api.Rule{allow(own, api.Read, -1), deny(of, api.Read, 1)}
			if got := rule.May(p, 2, api.Read, 1); got == there {
				t.Errorf("10.2: Deny to role %d: one of role %d: May = %t", of, own, got)
			}
			p.Rules = []api.Rule{allow(own, api.Read, -1), release(of, 1, 2)}
			if got := rule.Releases(p, 2, 1); got != there {
				t.Errorf("10.2: Release to role %d: one of role %d: Releases = %t", of, own, got)
			}
		}
	}
	p := small()
	p.Who[3].Roles = 255 - 15
	for role := range p.Up {
		p.Rules = []api.Rule{allow(role, api.Read, -1), release(role, 0, 0)}
		if !rule.Right(p) || rule.May(p, 3, api.Read, 0) || rule.Releases(p, 3, 1) {
			t.Errorf("10.2: one has role %d by bits of roles that are not there", role)
		}
	}
}

// TestNone: numbers that are none.
func TestNone(t *testing.T) {
	for _, b := range bases() {
		p := b.fresh()
		for k := range p.Who {
			p.Who[k] = api.Who{Clear: l(255, 3), Roles: 255}
		}
		for _, n := range append([]int{len(p.Who), len(p.Who) + 1, len(p.Who) - 64, len(p.Who) + 64}, ends...) {
			if rule.Sees(p, n, api.Label{}) {
				t.Errorf("10.2: %s: Sees of principal %d", b.name, n)
			}
			for verb := range 5 {
				for ent := range p.Ents {
					if rule.May(p, n, verb, ent) {
						t.Errorf("10.2: %s: May(%d, %d, %d) = true", b.name, n, verb, ent)
					}
				}
			}
			for k := range p.Rules {
				if rule.Releases(p, n, k) {
					t.Errorf("10.2: %s: Releases(%d, %d) = true", b.name, n, k)
				}
			}
		}
		for _, n := range append([]int{len(p.Ents), len(p.Ents) + 1, len(p.Ents) - 64, len(p.Ents) + 64}, ends...) {
			if got := rule.Label(p, n); got != (api.Label{}) {
				t.Errorf("10.2: %s: Label(%d) = %+v", b.name, n, got)
			}
			for verb := range 5 {
				for who := range p.Who {
					if rule.May(p, who, verb, n) {
						t.Errorf("10.2: %s: May(%d, %d, %d) = true", b.name, who, verb, n)
					}
				}
			}
		}
		for _, n := range append([]int{len(p.Groups), len(p.Groups) + 1, len(p.Groups) - 64, len(p.Groups) + 64}, ends...) {
			if got := rule.Group(p, n); got != (api.Label{}) {
				t.Errorf("10.2: %s: Group(%d) = %+v", b.name, n, got)
			}
		}
		for _, n := range append([]int{len(p.Rules), len(p.Rules) + 1, len(p.Rules) - 64, len(p.Rules) + 64}, ends...) {
			for who := range p.Who {
				if rule.Releases(p, who, n) {
					t.Errorf("10.2: %s: Releases(%d, %d) = true", b.name, who, n)
				}
			}
		}
	}
}

func TestLabel(t *testing.T) {
	p := small()
	for ent, want := range []api.Label{l(1, 1), l(2, 2), l(4, 0)} {
		if got := rule.Label(p, ent); got != want {
			t.Errorf("10.2: Label(%d) = %+v, want %+v", ent, got, want)
		}
	}
	p = big()
	for ent, want := range []api.Label{l(1, 3), l(2, 1), l(4, 2), l(8, 3), l(16, 0), l(32, 1), l(64, 2), l(128, 3)} {
		if got := rule.Label(p, ent); got != want {
			t.Errorf("10.2: Label(%d) = %+v, want %+v", ent, got, want)
		}
	}
}

func TestGroup(t *testing.T) {
	cases := []struct {
		p    api.Policy
		set  uint64
		want api.Label
	}{
		{small(), 1, l(1, 1)},
		{small(), 2, l(2, 2)},
		{small(), 3, l(3, 2)},
		{small(), 4, l(4, 0)},
		{small(), 5, l(5, 1)},
		{small(), 6, l(6, 2)},
		{small(), 7, l(7, 2)},
		{big(), 1, l(1, 3)},
		{big(), 16, l(16, 0)},
		{big(), 16 + 32, l(48, 1)},
		{big(), 32 + 64, l(96, 2)},
		{big(), 2 + 4 + 16 + 32, l(54, 2)},
		{big(), 128, l(128, 3)},
		{big(), 128 + 16, l(144, 3)},
		{big(), 255, l(255, 3)},
	}
	for _, c := range cases {
		for group := range c.p.Groups {
			was := c.p.Groups[group]
			c.p.Groups[group] = c.set
			if got := rule.Group(c.p, group); got != c.want {
				t.Errorf("10.2: Group(%d) of entities %b = %+v, want %+v", group, c.set, got, c.want)
			}
			c.p.Groups[group] = was
		}
	}
}

func TestSees(t *testing.T) {
	p := small() // what they may see: 7 and 3; 3 and 1; 0 and 0; 255 and 0
	cases := []struct {
		who  int
		l    api.Label
		want bool
	}{
		{0, l(0, 0), true},
		{0, l(7, 3), true},
		{0, l(5, 2), true},
		{0, l(8, 0), false},
		{0, l(15, 3), false},
		{0, l(7, 4), false},
		{1, l(3, 1), true},
		{1, l(1, 0), true},
		{1, l(3, 2), false},
		{1, l(4, 0), false},
		{1, l(7, 1), false},
		{2, l(0, 0), true},
		{2, l(1, 0), false},
		{2, l(0, 1), false},
		{3, l(255, 0), true},
		{3, l(128, 0), true},
		{3, l(128, 1), false},
		{3, l(256, 0), false},
		{3, l(1<<63, 0), false},
		{0, l(math.MaxUint64, 3), false},
		{0, l(7, math.MaxInt), false},
		// Below asks nothing else of a label.
		{0, l(7, -1), true},
		{2, l(0, math.MinInt), true},
		{2, l(1, -1), false},
	}
	for _, c := range cases {
		if got := rule.Sees(p, c.who, c.l); got != c.want {
			t.Errorf("10.2: Sees(%d, %+v) = %t", c.who, c.l, got)
		}
	}
}

// TestReleases: of each rule of each kind, by each principal.
func TestReleases(t *testing.T) {
	p := small() // their roles: 2, with 1 and 0; 0; 3; none
	want := [][]bool{{true, false, false, false}, {false, false, false, false}, {false, false, false, true}, {false, false, false, false}}
	for who := range p.Who {
		for k := range p.Rules {
			if got := rule.Releases(p, who, k); got != want[who][k] {
				t.Errorf("10.2: Releases(%d, %d) = %t", who, k, got)
			}
		}
	}
	p = big() // every fourth rule is one of Release, to the roles in their order; the last principal has all
	for k := range p.Rules {
		if got := rule.Releases(p, 7, k); got != (k%4 == 3) {
			t.Errorf("10.2: Releases(7, %d) = %t", k, got)
		}
	}
}

// roomy is p in lists that have room behind them, filled; whole is all of it, with the room.
func roomy(p api.Policy) (api.Policy, api.Policy) {
	whole := api.Policy{
		Ents:   append(slices.Clone(p.Ents), api.Ent{Level: -7}, api.Ent{Share: 9}),
		Groups: append(slices.Clone(p.Groups), 77, 78),
		Who:    append(slices.Clone(p.Who), api.Who{Roles: 700}, api.Who{Clear: l(9, 9)}),
		Up:     append(slices.Clone(p.Up), -9, 12),
		Rules:  append(slices.Clone(p.Rules), api.Rule{Tag: 9}, release(-3, 7, 70)),
	}
	return api.Policy{
		Ents:   whole.Ents[:len(p.Ents)],
		Groups: whole.Groups[:len(p.Groups)],
		Who:    whole.Who[:len(p.Who)],
		Up:     whole.Up[:len(p.Up)],
		Rules:  whole.Rules[:len(p.Rules)],
	}, whole
}

// TestHandedIn: the policy is not changed, nor the room behind its lists.
func TestHandedIn(t *testing.T) {
	list := []api.Policy{{}, small(), big()}
	turned := big()
	turned.Rules[31].To.Level = 4
	for _, b := range append(list, turned) {
		p, whole := roomy(b)
		_, was := roomy(b)
		rule.Right(p)
		for n := -1; n < 10; n++ {
			rule.Label(p, n)
			rule.Group(p, n)
			rule.Sees(p, n, l(3, 1))
			for k := -1; k < 10; k++ {
				rule.May(p, n, api.Read, k)
				rule.Releases(p, n, k)
			}
		}
		if !reflect.DeepEqual(whole, was) {
			t.Errorf("R2: %+v, with its room, is %+v", was, whole)
		}
	}
}

// TestNotKept: a policy that is another one now is asked as another one.
func TestNotKept(t *testing.T) {
	p := small()
	if !rule.May(p, 0, api.Read, 0) || rule.Label(p, 0) != l(1, 1) || rule.Group(p, 0) != l(5, 1) || !rule.Sees(p, 1, l(3, 1)) || !rule.Releases(p, 0, 0) {
		t.Error("10.2: the answers of the policy as it was first")
	}
	p.Ents[0].Level, p.Groups[0], p.Who[1].Clear.Level, p.Up[1] = 3, 1, 0, -1
	p.Rules[1].Tag = api.Deny
	if !rule.Right(p) || rule.May(p, 0, api.Read, 0) || rule.May(p, 1, api.Read, 0) || rule.Label(p, 0) != l(1, 3) || rule.Group(p, 0) != l(1, 3) || rule.Sees(p, 1, l(3, 1)) {
		t.Error("R4: the answers are told as of the policy that was there ahead of it")
	}
	p.Up[2] = -1
	if rule.Releases(p, 0, 0) {
		t.Error("R4: roles are told as they were ahead of it")
	}
	p.Ents[2].Share = 0
	judge(t, "turned", p, false)
}
