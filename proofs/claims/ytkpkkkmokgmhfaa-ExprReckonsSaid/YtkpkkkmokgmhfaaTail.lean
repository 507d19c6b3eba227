/- The end of a region that draws its order: operations that are moves, picks, or not wanted at all, taken one by one in one step. Of no program. -/
import Derived.WalkKit
import Derived.Deep.RegionHeld3
namespace Go.Proofs.Ytkpkkkmokgmhfaa
set_option maxRecDepth 100000

/-- what an operation yields that looks at no world -/
def pureOf (a : Act) (o : Oper) : Option Value :=
  match o.op with
  | .move x => some (a.eval x)
  | .assign x => some (a.eval x)
  | .pick c x y =>
    match a.eval c with
    | .bool true => some (a.eval x)
    | .bool false => some (a.eval y)
    | _ => none
  | _ => none

/-- may these come up in this order -/
def tailOk (md : Region.Mode) (ops : Array Oper) : List Nat → Array Bool → Bool
  | [], _ => true
  | i :: is, listed => Region.free md ops listed i && (Region.ready md ops listed).contains i && tailOk md ops is (listed.setIfInBounds i true)
def tailMarks : List Nat → Array Bool → Array Bool
  | [], listed => listed
  | i :: is, listed => tailMarks is (listed.setIfInBounds i true)

/-- what they leave -/
def tailRun (ops : Array Oper) : List Nat → Act → Option Act
  | [], a => some a
  | i :: is, a =>
    match ops[i]? with
    | none => none
    | some o =>
      match Region.wanted o (yielded ops a.tmps) with
      | true =>
        match pureOf a o with
        | some v => tailRun ops is (a.put o.dst v)
        | none => none
      | false => tailRun ops is (a.put o.dst undef)

theorem pureOf_run {P : Program} {w : World} {a : Act} {o : Oper} {v : Value} (h : pureOf a o = some v) : (execOp a.eval o).run P w = .ok (.value v) w := by
  unfold pureOf at h
  split at h
  · rename_i x ho
    injection h with h; subst h
    simp [execOp, ho]
  · rename_i x ho
    injection h with h; subst h
    simp [execOp, ho]
  · rename_i c x y ho
    split at h
    · rename_i hc
      injection h with h; subst h
      simp [execOp, ho, hc, asBool]
    · rename_i hc
      injection h with h; subst h
      simp [execOp, ho, hc, asBool]
    · cases h
  · cases h

theorem wpAnyH_takes {P : Program} {md : Region.Mode} {ops : Array Oper} {Q : Exit → Act → World → Prop} {S : World → Prop} {w : World} (hs : Region.noSelect ops = true) (hQ : ∀ o v c a w, Q (.panic c) (a.put o v) w → Q (.panic c) a w) (hS : S w) :
    ∀ (is : List Nat) (fuel : Nat) (listed : Array Bool) (a a' : Act), tailOk md ops is listed = true → tailRun ops is a = some a' → wpAnyH P md ops Q S fuel (tailMarks is listed) a' w → wpAnyH P md ops Q S (fuel + is.length) listed a w
  | [], fuel, listed, a, a', _, hrun, hq => by
    simp only [tailRun, Option.some.injEq] at hrun
    subst hrun
    exact hq
  | i :: is, fuel, listed, a, a', hok, hrun, hq => by
    simp only [tailOk, Bool.and_eq_true] at hok
    obtain ⟨⟨h1, h2⟩, h3⟩ := hok
    rw [tailRun] at hrun
    rw [List.length_cons, ← Nat.add_assoc]
    split at hrun
    · cases hrun
    · rename_i o ho
      split at hrun
      · rename_i hw
        split at hrun
        · rename_i v hv
          exact wpAnyH_take ho hs h1 h2 (fun c a w => hQ o.dst v c a w) (.inl ⟨hw, fun w _ => pureOf_run hv⟩) hS (wpAnyH_takes hs hQ hS is fuel _ _ a' h3 hrun hq)
        · cases hrun
      · rename_i hw
        exact wpAnyH_take ho hs h1 h2 (fun c a w => hQ o.dst undef c a w) (.inr ⟨hw, rfl⟩) hS (wpAnyH_takes hs hQ hS is fuel _ _ a' h3 hrun hq)

def putsOf : List (Option Tmp × Value) → Act → Act
  | [], a => a
  | (d, v) :: ps, a => putsOf ps (a.put d v)

theorem wpAnyH_puts {P : Program} {md : Region.Mode} {ops : Array Oper} {Q : Exit → Act → World → Prop} {S : World → Prop} {w : World} {listed : Array Bool} {a : Act} (hs : Region.noSelect ops = true) (hQ : ∀ o v c a w, Q (.panic c) (a.put o v) w → Q (.panic c) a w) (hS : S w)
    (is : List Nat) (fuel : Nat) (ps : List (Option Tmp × Value)) (hok : tailOk md ops is listed = true) (hrun : tailRun ops is a = some (putsOf ps a)) (hq : wpAnyH P md ops Q S fuel (tailMarks is listed) (putsOf ps a) w) : wpAnyH P md ops Q S (fuel + is.length) listed a w :=
  wpAnyH_takes hs hQ hS is fuel listed a _ hok hrun hq

/-- one operation more, of which it is known what it yields -/
theorem wpAnyH_one {P : Program} {md : Region.Mode} {ops : Array Oper} {Q : Exit → Act → World → Prop} {S : World → Prop} {w : World} {listed : Array Bool} {a : Act} (hs : Region.noSelect ops = true) (hQ : ∀ o v c a w, Q (.panic c) (a.put o v) w → Q (.panic c) a w) (hS : S w)
    (i fuel : Nat) (d : Option Tmp) (v : Value) (o : Oper) (ho : ops[i]? = some o) (hd : o.dst = d) (hok : tailOk md ops [i] listed = true) (hw : Region.wanted o (yielded ops a.tmps) = true) (hv : ∀ w, S w → (execOp a.eval o).run P w = .ok (.value v) w)
    (hq : wpAnyH P md ops Q S fuel (listed.setIfInBounds i true) (a.put d v) w) : wpAnyH P md ops Q S (fuel + 1) listed a w := by
  subst hd
  simp only [tailOk, Bool.and_eq_true] at hok
  exact wpAnyH_take ho hs hok.1.1 hok.1.2 (fun c a w => hQ o.dst v c a w) (.inl ⟨hw, hv⟩) hS hq
end Go.Proofs.Ytkpkkkmokgmhfaa
