package rule

import (
	"pyx/api"
	"pyx/dec"
	"pyx/label"
)

const (
	noParent  = -1 // as an entity's parent: there is none
	entScale  = 4  // the highest Scale of an entity's currency
	unitScale = 2  // the highest Scale of a rule's Unit
)

func rightEnts(ents []api.Ent) bool {
	if len(ents) < 1 || len(ents) > api.MaxEnt {
		return false
	}
	for k, e := range ents {
		if !rightEnt(e, k) {
			return false
		}
	}
	return true
}

// rightEnt: e may be the entity of that number.
func rightEnt(e api.Ent, number int) bool {
	if e.Level < 0 || e.Level > api.MaxLevel || e.Scale < 0 || e.Scale > entScale {
		return false
	}
	if e.Parent == noParent {
		return e.Share == api.Share
	}
	return among(e.Parent, number) && e.Share >= 1 && e.Share <= api.Share
}

func rightGroups(p api.Policy) bool {
	if len(p.Groups) > api.MaxGroups {
		return false
	}
	for _, set := range p.Groups {
		if set == 0 || set>>uint(len(p.Ents)) != 0 {
			return false
		}
	}
	return true
}

func rightWhos(whos []api.Who) bool {
	if len(whos) < 1 || len(whos) > api.MaxWho {
		return false
	}
	for _, w := range whos {
		// A role's bit may stand there without the role: it gives nothing.
		if !label.Right(w.Clear) || w.Roles>>api.MaxRoles != 0 {
			return false
		}
	}
	return true
}

func rightRules(p api.Policy) bool {
	if len(p.Rules) > api.MaxRules {
		return false
	}
	for _, r := range p.Rules {
		if !rightRule(p, r) {
			return false
		}
	}
	return true
}

func rightRule(p api.Policy, r api.Rule) bool {
	if !among(r.Role, len(p.Up)) {
		return false
	}
	switch r.Tag {
	case api.Allow, api.Deny:
		return rightMay(r, len(p.Ents))
	case api.Release:
		return rightRelease(r, len(p.Groups))
	}
	return false
}

// rightMay: r may be a rule of Allow or Deny, of that many entities.
func rightMay(r api.Rule, ents int) bool {
	if r.Verb < api.Read || r.Verb > api.Manage {
		return false
	}
	if r.Ent != anyEnt && !among(r.Ent, ents) {
		return false
	}
	// All that is not named here must be zero.
	return r == api.Rule{Tag: r.Tag, Role: r.Role, Verb: r.Verb, Ent: r.Ent}
}

// rightRelease: r may be a rule of Release, of that many groups.
func rightRelease(r api.Rule, groups int) bool {
	if r.Verb != 0 || r.Ent != anyEnt {
		return false
	}
	return among(r.Group, groups) && among(r.Line, api.Lines) && rightUnit(r.Unit) && label.Right(r.To)
}

// rightUnit: what is let out may be rounded to it. Of a decimal that is not right the sign is 0.
func rightUnit(unit api.Dec) bool {
	return dec.Sign(unit) > 0 && unit.Scale <= unitScale
}
