package rule_test

import (
	"math"
	"math/rand/v2"
	"reflect"
	"slices"
	"testing"

	"pyx/api"
	"pyx/dec"
	"pyx/rule"
)

// odd: the k-th bit of a word is there, by halving.
func odd(word uint64, k int) bool {
	for range k {
		word /= 2
	}
	return word%2 == 1
}

// has is a second telling of who has a role: from each of its own ones up to the last parent.
func has(p api.Policy, who, role int) bool {
	for own := range p.Up {
		for k := own; odd(p.Who[who].Roles, own) && k != -1; k = p.Up[k] {
			if k == role {
				return true
			}
		}
	}
	return false
}

// tell is a second telling of May, of a right policy and of numbers that there are.
func tell(p api.Policy, who, verb, ent int) bool {
	said := map[[2]int]int{} // of a tag and an entity, how many rules speak
	for _, r := range p.Rules {
		if r.Verb == verb && has(p, who, r.Role) {
			said[[2]int{r.Tag, r.Ent}]++
		}
	}
	for _, of := range []int{ent, -1} {
		if said[[2]int{api.Deny, of}] > 0 {
			return false
		}
		if said[[2]int{api.Allow, of}] > 0 {
			return true
		}
	}
	return false
}

// within: n is one of low to high.
func within(n, low, high int) bool {
	return n == min(max(n, low), high)
}

// right is a second telling of Right: the first part that may not be is told, by a name; no name of one that is right.
func right(p api.Policy) string {
	if !within(len(p.Ents), 1, 8) || !within(len(p.Groups), 0, 4) || !within(len(p.Who), 1, 8) || !within(len(p.Up), 0, 8) || !within(len(p.Rules), 0, 32) {
		return "how many"
	}
	for k, e := range p.Ents {
		least := 1
		if e.Parent == -1 {
			least = 10000
		}
		if !within(e.Level, 0, 3) || !within(e.Scale, 0, 4) || !within(e.Parent, -1, k-1) || !within(e.Share, least, 10000) {
			return "an entity"
		}
	}
	top := uint64(1)
	for range p.Ents {
		top += top
	}
	for _, set := range p.Groups {
		if set-1 >= top-1 { // 0 wraps round to the highest
			return "a group"
		}
	}
	for _, w := range p.Who {
		if !mayBe(w.Clear) || w.Roles > 255 {
			return "a principal"
		}
	}
	for k, parent := range p.Up {
		if !within(parent, -1, k-1) {
			return "a role"
		}
	}
	for _, r := range p.Rules {
		if !rightRule(p, r) {
			return "a rule"
		}
	}
	return ""
}

func mayBe(l api.Label) bool {
	return l.Set <= 255 && within(l.Level, 0, 3)
}

func rightRule(p api.Policy, r api.Rule) bool {
	if !within(r.Role, 0, len(p.Up)-1) || len(p.Up) == 0 || !within(r.Tag, 1, 3) {
		return false
	}
	if r.Tag != api.Release {
		rest := [...]int{r.Group, r.Line, r.Unit.Scale, r.To.Level}
		words := [...]uint64{r.Unit.C[0], r.Unit.C[1], r.To.Set}
		return within(r.Verb, 1, 3) && within(r.Ent, -1, len(p.Ents)-1) && rest == [4]int{} && words == [3]uint64{} && !r.Unit.Neg
	}
	if r.Verb != 0 || r.Ent != -1 || len(p.Groups) == 0 || !within(r.Group, 0, len(p.Groups)-1) || !within(r.Line, 0, 5) {
		return false
	}
	u := r.Unit
	return within(u.Scale, 0, 2) && !u.Neg && u.C != [2]uint64{} && dec.Right(u) && mayBe(r.To)
}

// drawn makes policies.
type drawn struct {
	*rand.Rand
}

func draws(seed uint64) drawn {
	return drawn{rand.New(rand.NewPCG(seed, seed+1))}
}

// between is one of low to high.
func (r drawn) between(low, high int) int {
	return low + r.IntN(high-low+1)
}

func (r drawn) label() api.Label {
	return l(uint64(r.IntN(256)), r.IntN(4))
}

// policy is one that is right, of at most that many rules.
func (r drawn) policy(rules int) api.Policy {
	var p api.Policy
	for k := range r.between(1, 8) {
		e := api.Ent{Level: r.IntN(4), Scale: r.IntN(5), Parent: r.between(-1, k-1), Share: 10000}
		if e.Parent >= 0 {
			e.Share = r.between(1, 10000)
		}
		p.Ents = append(p.Ents, e)
	}
	top := 1<<uint(len(p.Ents)) - 1
	for range r.between(0, 4) {
		p.Groups = append(p.Groups, uint64(r.between(1, top)))
	}
	for range r.between(1, 8) {
		p.Who = append(p.Who, api.Who{Clear: r.label(), Roles: uint64(r.IntN(256)) & uint64(r.IntN(256))})
	}
	for k := range r.between(0, 8) {
		p.Up = append(p.Up, r.between(-1, k-1))
	}
	if len(p.Up) == 0 {
		return p
	}
	for range r.between(0, rules) {
		p.Rules = append(p.Rules, r.rule(p))
	}
	return p
}

// rule is one that p, that has roles, may have.
func (r drawn) rule(p api.Policy) api.Rule {
	of := r.IntN(len(p.Up))
	if len(p.Groups) > 0 && r.IntN(5) == 0 {
		return api.Rule{Tag: api.Release, Role: of, Ent: -1, Group: r.IntN(len(p.Groups)), Line: r.IntN(6), Unit: dec.Of(r.between(1, 100000), r.IntN(3)), To: r.label()}
	}
	return api.Rule{Tag: r.between(1, 2), Role: of, Verb: r.between(1, 3), Ent: r.between(-1, min(2, len(p.Ents)-1))}
}

// with is p with one rule more, at a drawn place.
func (r drawn) with(p api.Policy, one api.Rule) api.Policy {
	p.Rules = slices.Insert(slices.Clone(p.Rules), r.IntN(len(p.Rules)+1), one)
	return p
}

// each calls do with each principal, verb and entity that there is.
func each(p api.Policy, do func(who, verb, ent int)) {
	for who := range p.Who {
		for verb := 1; verb <= 3; verb++ {
			for ent := range p.Ents {
				do(who, verb, ent)
			}
		}
	}
}

// same holds May of p against the second telling.
func same(t *testing.T, p api.Policy) {
	t.Helper()
	each(p, func(who, verb, ent int) {
		if got, want := rule.May(p, who, verb, ent), tell(p, who, verb, ent); got != want {
			t.Fatalf("10.2: %+v: May(%d, %d, %d) = %t", p, who, verb, ent, got)
		}
	})
}

// sameRest holds the calls other than May against what 10.2 says of them.
func sameRest(t *testing.T, r drawn, p api.Policy) {
	t.Helper()
	for ent, e := range p.Ents {
		if got := rule.Label(p, ent); got.Level != e.Level || got.Set == 0 || got.Set&(got.Set-1) != 0 || !odd(got.Set, ent) {
			t.Fatalf("10.2: %+v: Label(%d) = %+v", p, ent, got)
		}
	}
	for group, set := range p.Groups {
		level := 0
		for ent, e := range p.Ents {
			if odd(set, ent) && e.Level > level {
				level = e.Level
			}
		}
		if got := rule.Group(p, group); got != l(set, level) {
			t.Fatalf("10.2: %+v: Group(%d) = %+v", p, group, got)
		}
	}
	for who, w := range p.Who {
		for range 8 {
			a := r.label()
			want := a.Level <= w.Clear.Level
			for ent := range 8 {
				want = want && (odd(w.Clear.Set, ent) || !odd(a.Set, ent))
			}
			if got := rule.Sees(p, who, a); got != want {
				t.Fatalf("10.2: %+v: Sees(%d, %+v) = %t", p, who, a, got)
			}
		}
		for k, one := range p.Rules {
			if got := rule.Releases(p, who, k); got != (one.Tag == 3 && has(p, who, one.Role)) {
				t.Fatalf("10.2: %+v: Releases(%d, %d) = %t", p, who, k, got)
			}
		}
	}
}

// TestSame: drawn policies, of few rules and of many, are right, and answer as the second telling says.
func TestSame(t *testing.T) {
	r := draws(41)
	for _, most := range []int{0, 2, 4, 8, 16, 32} {
		for range 200 {
			p := r.policy(most)
			if !rule.Right(p) || right(p) != "" {
				t.Fatalf("10.1: %+v: Right = %t", p, rule.Right(p))
			}
			same(t, p)
			sameRest(t, r, p)
		}
	}
}

// numbers are the words and ints that lie in v, of whatever depth; all of them may be put to another value.
func numbers(v reflect.Value) []reflect.Value {
	var list []reflect.Value
	switch v.Kind() {
	case reflect.Struct:
		for k := range v.NumField() {
			list = append(list, numbers(v.Field(k))...)
		}
	case reflect.Slice, reflect.Array:
		for k := range v.Len() {
			list = append(list, numbers(v.Index(k))...)
		}
	default:
		list = append(list, v)
	}
	return list
}

// put turns one number of a policy: to one near by, or to one far off.
func (r drawn) put(v reflect.Value) {
	switch v.Kind() {
	case reflect.Bool:
		v.SetBool(!v.Bool())
	case reflect.Uint64:
		v.SetUint([]uint64{v.Uint() + 1, v.Uint() - 1, v.Uint() ^ 1<<uint(r.IntN(64)), 0, 255, 256, math.MaxUint64, r.Uint64()}[r.IntN(8)])
	default:
		v.SetInt([]int64{v.Int() + 1, v.Int() - 1, v.Int() + int64(r.IntN(21)) - 10, -1, 0, -2, 9999, 10001, math.MinInt64, math.MaxInt64}[r.IntN(10)])
	}
}

// TestSameRight: drawn policies of which one number, or a few, are turned: Right as the second telling says it.
func TestSameRight(t *testing.T) {
	r := draws(43)
	count := map[string]int{}
	for range 20000 {
		p := r.policy(r.IntN(9))
		all := numbers(reflect.ValueOf(&p).Elem())
		for range r.between(1, 3) {
			r.put(all[r.IntN(len(all))])
		}
		wrong := right(p)
		count[wrong]++
		if got := rule.Right(p); got != (wrong == "") {
			t.Fatalf("10.1: %+v: Right = %t", p, got)
		}
		if wrong != "" {
			silent(t, wrong, p)
		} else {
			same(t, p)
		}
	}
	for _, name := range []string{"", "an entity", "a group", "a principal", "a role", "a rule"} {
		if count[name] < 100 {
			t.Errorf("of the policies just %d are %q", count[name], name)
		}
	}
}

// eachRow calls do with each row of at most n rules out of the list; do must not keep it.
func eachRow(list []api.Rule, n int, do func(row []api.Rule)) {
	row := make([]api.Rule, 0, n)
	var from func()
	from = func() {
		do(row)
		if len(row) == n {
			return
		}
		for _, one := range list {
			row = append(row, one)
			from()
			row = row[:len(row)-1]
		}
	}
	from()
}

// TestSameRows: every row of at most three rules of a list that has, of two roles, two verbs and two entities and any, each tag.
func TestSameRows(t *testing.T) {
	list := []api.Rule{release(1, 0, 0)}
	for _, tag := range []int{api.Allow, api.Deny} {
		for role := range 2 {
			for ent := -1; ent < 2; ent++ {
				for _, verb := range []int{api.Read, api.Manage} {
					list = append(list, api.Rule{Tag: tag, Role: role, Verb: verb, Ent: ent})
				}
			}
		}
	}
	p := api.Policy{
		Ents:   []api.Ent{{Parent: -1, Share: 10000}, {Parent: 0, Share: 1}},
		Groups: []uint64{3},
		Who:    []api.Who{{Roles: 1}, {Roles: 2}, {Roles: 0}},
		Up:     []int{-1, 0},
	}
	eachRow(list, 3, func(row []api.Rule) {
		p.Rules = row
		same(t, p)
	})
}

// TestDeny: with a rule of Deny added nobody may more, and with one of Allow nobody less; both change the one verb alone.
func TestDeny(t *testing.T) {
	r := draws(47)
	less, more := 0, 0
	for range 2000 {
		p := r.policy(r.IntN(16))
		if len(p.Up) == 0 {
			continue
		}
		one := api.Rule{Tag: api.Deny, Role: r.IntN(len(p.Up)), Verb: r.between(1, 3), Ent: r.between(-1, len(p.Ents)-1)}
		denied := r.with(p, one)
		one.Tag = api.Allow
		allowed := r.with(p, one)
		each(p, func(who, verb, ent int) {
			was, now, then := rule.May(p, who, verb, ent), rule.May(denied, who, verb, ent), rule.May(allowed, who, verb, ent)
			if now && !was {
				t.Fatalf("10.3: %+v: with Deny of %+v: May(%d, %d, %d)", p, one, who, verb, ent)
			}
			if was && !then {
				t.Fatalf("10.3: %+v: with %+v no May(%d, %d, %d)", p, one, who, verb, ent)
			}
			if (now != was || then != was) && (verb != one.Verb || !has(p, who, one.Role)) {
				t.Fatalf("10.3: %+v: %+v speaks of another verb or role, and changes May(%d, %d, %d)", p, one, who, verb, ent)
			}
			if now != was {
				less++
			}
			if then != was {
				more++
			}
		})
	}
	if less < 100 || more < 100 {
		t.Errorf("just %d answers are less and %d more", less, more)
	}
}

// TestOwn: a rule that speaks of an entity counts ahead of those of any, and changes nothing for another one.
func TestOwn(t *testing.T) {
	r := draws(53)
	for range 2000 {
		p := r.policy(r.IntN(16))
		if len(p.Up) == 0 {
			continue
		}
		of := r.IntN(len(p.Ents))
		one := api.Rule{Tag: r.between(1, 2), Role: r.IntN(len(p.Up)), Verb: r.between(1, 3), Ent: of}
		with := r.with(p, one)
		// What is said of any entity does not count where a rule of its own is there.
		general := slices.DeleteFunc(slices.Clone(with.Rules), func(x api.Rule) bool { return x.Ent == -1 && x.Tag != api.Release })
		own := with
		own.Rules = general
		each(p, func(who, verb, ent int) {
			now := rule.May(with, who, verb, ent)
			if ent != of && now != rule.May(p, who, verb, ent) {
				t.Fatalf("10.3: %+v: %+v changes May(%d, %d, %d)", p, one, who, verb, ent)
			}
			if ent == of && verb == one.Verb && has(p, who, one.Role) && now != rule.May(own, who, verb, ent) {
				t.Fatalf("10.3: %+v: with %+v May(%d, %d, %d) hangs on rules of any", p, one, who, verb, ent)
			}
		})
	}
}

// TestOrder: what May says does not hang on the order of the rules.
func TestOrder(t *testing.T) {
	r := draws(59)
	for range 500 {
		p := r.policy(32)
		q := p
		q.Rules = slices.Clone(p.Rules)
		for range 4 {
			r.Shuffle(len(q.Rules), func(i, k int) { q.Rules[i], q.Rules[k] = q.Rules[k], q.Rules[i] })
			each(p, func(who, verb, ent int) {
				if rule.May(p, who, verb, ent) != rule.May(q, who, verb, ent) {
					t.Fatalf("10.3: %+v: May(%d, %d, %d) hangs on the order of the rules", p, who, verb, ent)
				}
			})
		}
	}
}

// TestSays: of each kind of rules there are drawn ones enough, so that what is held above is not held of nothing.
func TestSays(t *testing.T) {
	r := draws(61)
	count := map[bool]int{}
	for range 300 {
		p := r.policy(32)
		each(p, func(who, verb, ent int) { count[rule.May(p, who, verb, ent)]++ })
	}
	if count[true] < 2000 || count[false] < 2000 {
		t.Errorf("of what is asked %d may be, %d may not", count[true], count[false])
	}
}
