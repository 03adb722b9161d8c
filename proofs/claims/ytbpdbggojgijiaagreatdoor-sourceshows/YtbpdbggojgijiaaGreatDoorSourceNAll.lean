/- A region that draws its order, whose last operation waits for all others: the region without it, and then that one. -/
import Derived.Deep.RegionHeldLaw
import Derived.WalkKit
import Derived.Test.YtbpdbggojgijiaaGreatDoorSourceGAll
import Derived.Test.YtbpdbggojgijiaaGreatDoorOwnDA
import Derived.Lib.SplitLaws
import Derived.Shelf.Strings.Split
namespace Go.Proofs.YtbpdbggojgijiaaGreatDoor
open Go Go.RowKit
set_option linter.unusedVariables false

variable {P : Program}
theorem upon_q {o : Oper} {a : Act} {K : Act → World → Prop} {Q1 Q2 : Exit → Act → World → Prop} (hq : ∀ ex a w, ex ≠ .normal → Q1 ex a w → Q2 ex a w) : ∀ r, o.upon P a K Q1 r → o.upon P a K Q2 r := by
  intro r h
  have hl : LetsOut Q1 → LetsOut Q2 := fun ⟨a, w, h⟩ => ⟨a, w, hq _ _ _ (by intro e; cases e) h⟩
  cases r with
  | ok n w' =>
    cases n <;> simp only [Oper.upon] at h ⊢ <;>
      first
        | exact h
        | exact Calls.mono h (fun e w'' he => by cases e <;> first | exact he | exact hq _ _ _ (by intro e; cases e) he | exact hl he)
  | halt x w' => cases x <;> simp only [Oper.upon] at h ⊢ <;> first | exact h | exact hq _ _ _ (by intro e; cases e) h
/-- what is left behind the others -/
def Qlast (P : Program) (ops : Array Oper) (Q : Exit → Act → World → Prop) (n : Nat) : Exit → Act → World → Prop
  | .normal, a, w => wpOp P ops Q n (fun a' w' => Q .normal a' w') a w
  | x, a, w => Q x a w
theorem qlast_n {ops : Array Oper} {Q : Exit → Act → World → Prop} {n : Nat} {a : Act} {w : World} (h : wpOp P ops Q n (fun a' w' => Q .normal a' w') a w) : Qlast P ops Q n .normal a w := h
theorem qlast_q {ops : Array Oper} {Q : Exit → Act → World → Prop} {n : Nat} : ∀ ex a w, ex ≠ .normal → Qlast P ops Q n ex a w → Q ex a w := by
  intro ex a w h
  cases ex <;> first | exact absurd rfl h | exact id
variable {ops : Array Oper} {o : Oper} {Q : Exit → Act → World → Prop} {md : Region.Mode}
theorem wpOp_q {i : Nat} (hi : i < ops.size) (hg : ∀ (j : Nat) (oj : Oper), ops[j]? = some oj → oj.guard = none) {K K' : Act → World → Prop} (hK : ∀ a w, K a w → K' a w) {a : Act} {w : World} (h : wpOp P ops (Qlast P (ops.push o) Q ops.size) i K a w) : wpOp P (ops.push o) Q i K' a w := by
  have e1 : (ops.push o)[i]? = ops[i]? := by rw [Array.getElem?_push, if_neg (by omega)]
  have e2 := Array.getElem?_eq_getElem hi
  have hw : ∀ y, Region.wanted ops[i] y = true := fun y => by simp [Region.wanted, hg i _ e2]
  unfold wpOp at h ⊢
  rw [e1, e2]
  rw [e2] at h
  simp only [hw, if_true] at h ⊢
  rcases h with h | ⟨h1, a', w', h2⟩
  · exact .inl (Oper.wp_mono hK (upon_q qlast_q _ h))
  · exact .inr ⟨h1, a', w', qlast_q _ _ _ (by intro e; cases e) h2⟩
theorem getD_push_lt {l : Array Bool} {b d : Bool} {i : Nat} (h : i < l.size) : (l.push b).getD i d = l.getD i d := by
  simp [Array.getD, h, Nat.lt_succ_of_lt h, Array.getElem_push_lt h]
theorem getD_push_eq {l : Array Bool} {b d : Bool} : (l.push b).getD l.size d = b := by simp [Array.getD]
theorem push_set {l : Array Bool} {i : Nat} {b c : Bool} (h : i < l.size) : (l.push b).setIfInBounds i c = (l.setIfInBounds i c).push b := by
  apply Array.ext_getElem?
  intro j
  rw [Array.getElem?_setIfInBounds, Array.getElem?_push, Array.getElem?_push, Array.getElem?_setIfInBounds, Array.size_setIfInBounds]
  by_cases e : i = j
  · subst e
    rw [if_pos rfl, if_pos (by simp; omega), if_neg (by omega), if_pos rfl, if_pos h]
  · rw [if_neg e, if_neg e]
theorem ready_lt {listed : Array Bool} (hs : listed.size = ops.size) (hord : ∀ (i : Nat) (oi : Oper), ops[i]? = some oi → ∀ e ∈ oi.after, e.on < ops.size) {i : Nat} (hi : i < ops.size) : i ∈ Region.ready md (ops.push o) (listed.push false) ↔ i ∈ Region.ready md ops listed := by
  rw [mem_ready, mem_ready, getD_push_lt (by omega)]
  have e1 : (ops.push o)[i]? = ops[i]? := by rw [Array.getElem?_push, if_neg (by omega)]
  rw [e1]
  constructor
  · rintro ⟨h1, oi, h2, h3⟩
    exact ⟨h1, oi, h2, fun e he hb => by have := h3 e he hb; rwa [getD_push_lt (by rw [hs]; exact hord i oi h2 e he)] at this⟩
  · rintro ⟨h1, oi, h2, h3⟩
    exact ⟨h1, oi, h2, fun e he hb => by rw [getD_push_lt (by rw [hs]; exact hord i oi h2 e he)]; exact h3 e he hb⟩
/-- the least one that has not come up may come up -/
theorem ready_none {listed : Array Bool} (hs : listed.size = ops.size) (hord : ∀ (i : Nat) (oi : Oper), ops[i]? = some oi → ∀ e ∈ oi.after, e.on < i) (h : Region.ready md ops listed = []) : ∀ i, i < ops.size → listed.getD i true = true ∧ listed.getD i false = true := by
  intro i
  induction i using Nat.strongRecOn with
  | ind i ih =>
    intro hi
    have e2 := Array.getElem?_eq_getElem hi
    have e3 : ∀ d, listed.getD i d = listed[i]'(by omega) := fun d => by simp [Array.getD, hs, hi]
    cases hb : listed[i]'(by omega) with
    | true => exact ⟨by rw [e3, hb], by rw [e3, hb]⟩
    | false =>
      exfalso
      have : i ∈ Region.ready md ops listed := mem_ready.2 ⟨by rw [e3, hb], _, e2, fun e he _ => (ih e.on (hord i _ e2 e he) (by have := hord i _ e2 e he; omega)).2⟩
      rw [h] at this
      cases this
theorem ready_all {listed : Array Bool} (h : ∀ i, i < ops.size → listed.getD i true = true) : Region.ready md ops listed = [] := by
  apply List.eq_nil_iff_forall_not_mem.2
  intro i hi
  obtain ⟨h1, oi, h2, _⟩ := mem_ready.1 hi
  have := h i (Array.getElem?_eq_some_iff.1 h2).1
  rw [h1] at this
  cases this
theorem any_last (hg : ∀ (j : Nat) (oj : Oper), ops[j]? = some oj → oj.guard = none) (hord : ∀ (i : Nat) (oi : Oper), ops[i]? = some oi → ∀ e ∈ oi.after, e.on < i) (hall : ∀ i, i < ops.size → ∃ e ∈ o.after, e.on = i ∧ Region.binds md e = true) (hin : ∀ e ∈ o.after, e.on < ops.size) :
    ∀ (fuel : Nat) (listed : Array Bool) (a : Act) (w : World), listed.size = ops.size → wpAny P md ops (Qlast P (ops.push o) Q ops.size) fuel listed a w → wpAny P md (ops.push o) Q (fuel + 1) (listed.push false) a w := by
  have hord' : ∀ (i : Nat) (oi : Oper), ops[i]? = some oi → ∀ e ∈ oi.after, e.on < ops.size := fun i oi h e he => Nat.lt_trans (hord i oi h e he) (Array.getElem?_eq_some_iff.1 h).1
  have hlast : ∀ listed : Array Bool, listed.size = ops.size → (ops.size ∈ Region.ready md (ops.push o) (listed.push false) ↔ ∀ i, i < ops.size → listed.getD i false = true) := fun listed hs => by
    rw [mem_ready, ← hs, getD_push_eq, hs]
    constructor
    · rintro ⟨_, oi, h2, h3⟩ i hi
      obtain rfl : o = oi := by simpa using h2
      obtain ⟨e, he, rfl, hb⟩ := hall i hi
      have := h3 e he hb
      rwa [getD_push_lt (by omega)] at this
    · intro h
      exact ⟨rfl, o, by simp, fun e he _ => by rw [getD_push_lt (by have := hin e he; omega)]; exact h _ (hin e he)⟩
  have hfin : ∀ listed : Array Bool, listed.size = ops.size → (∀ i, i < ops.size → listed.getD i false = true) → Region.ready md (ops.push o) ((listed.push false).setIfInBounds ops.size true) = [] := fun listed hs h => by
    refine ready_all fun i hi => ?_
    simp at hi
    by_cases e : i = ops.size
    · subst e
      simp [Array.getD, hs]
    · have hi2 : i < ops.size := by omega
      have h1 := h i hi2
      have e3 : listed.getD i false = listed[i]'(by omega) := by simp [Array.getD, hs, hi2]
      rw [e3] at h1
      have : ((listed.push false).setIfInBounds ops.size true).getD i true = listed[i]'(by omega) := by
        rw [getD_set_ne true (Ne.symm e), getD_push_lt (by omega)]
        simp [Array.getD, hs, hi2]
      rw [this, h1]
  intro fuel
  induction fuel with
  | zero =>
    intro listed a w hs H
    have hall2 := fun i hi => (ready_none hs hord H.1 i hi).2
    have hm := (hlast listed hs).2 hall2
    refine ⟨fun h => (by rw [h] at hm; cases hm), fun i hi => ?_⟩
    have hin2 : i < ops.size + 1 := by
      obtain ⟨_, oi, h2, _⟩ := mem_ready.1 hi
      have := (Array.getElem?_eq_some_iff.1 h2).1
      simpa using this
    by_cases e : i = ops.size
    · subst e
      exact wpOp_mono (fun a' w' h => ⟨hfin listed hs hall2, h⟩) H.2
    · have := (ready_lt (o := o) hs hord' (by omega)).1 hi
      rw [H.1] at this
      cases this
  | succ fuel ih =>
    intro listed a w hs H
    refine ⟨fun h => ?_, fun i hi => ?_⟩
    · exfalso
      have hr : Region.ready md ops listed = [] := by
        apply List.eq_nil_iff_forall_not_mem.2
        intro i hi
        have hil : i < ops.size := by
          obtain ⟨_, oi, h2, _⟩ := mem_ready.1 hi
          exact (Array.getElem?_eq_some_iff.1 h2).1
        have := (ready_lt (o := o) hs hord' hil).2 hi
        rw [h] at this
        cases this
      have hm := (hlast listed hs).2 (fun i hi => (ready_none hs hord hr i hi).2)
      rw [h] at hm
      cases hm
    · have hin2 : i < ops.size + 1 := by
        obtain ⟨_, oi, h2, _⟩ := mem_ready.1 hi
        have := (Array.getElem?_eq_some_iff.1 h2).1
        simpa using this
      by_cases e : i = ops.size
      · subst e
        have hall2 := (hlast listed hs).1 hi
        have hr : Region.ready md ops listed = [] := ready_all fun i hi => by
          have h1 := hall2 i hi
          have e3 : ∀ d, listed.getD i d = listed[i]'(by omega) := fun d => by simp [Array.getD, hs, hi]
          rw [e3] at h1 ⊢
          exact h1
        refine wpOp_mono (fun a' w' h => ⟨fun _ => h, fun j hj => ?_⟩) (H.1 hr)
        rw [hfin listed hs hall2] at hj
        cases hj
      · have hil : i < ops.size := by omega
        have h1 := H.2 i ((ready_lt (o := o) hs hord' hil).1 hi)
        refine wpOp_q hil hg (fun a' w' h => ?_) h1
        have := ih (listed.setIfInBounds i true) a' w' (by simpa using hs) h
        rw [push_set (by omega)]
        exact this
/-- the same as a question that the kernel answers -/
def lastOK (ops : Array Oper) : Bool :=
  match ops.back? with
  | none => false
  | some o => (List.range ops.pop.size).all (fun i => match ops.pop[i]? with | some oi => oi.guard.isNone && oi.after.all (fun e => decide (e.on < i)) | none => true) && (List.range ops.pop.size).all (fun i => o.after.any fun e => e.on == i && Region.binds .any e) && o.after.all fun e => decide (e.on < ops.pop.size)
theorem region_last {ops : Array Oper} {id : Nat} {a : Act} {w : World} {S : World → Prop} (hm : P.follows .mixedOrders = true) (hok : lastOK ops = true) (hS : S w.drew)
    (h : S w.drew → wpAnyH P .any ops.pop (Qlast P ops Q ops.pop.size) S ops.pop.size (Array.replicate ops.pop.size false) a w.drew) : (Code.region id ops true).wp P Q a w := by
  unfold lastOK at hok
  cases hb : ops.back? with
  | none => rw [hb] at hok; cases hok
  | some o =>
    rw [hb] at hok
    simp only [Bool.and_eq_true, List.all_eq_true, List.mem_range, Array.all_eq_true_iff_forall_mem, Array.any_eq_true, decide_eq_true_eq] at hok
    obtain ⟨⟨h1, h2⟩, h3⟩ := hok
    have hp : ops = ops.pop.push o := by
      have hs : 0 < ops.size := by
        rcases Nat.eq_zero_or_pos ops.size with e | e
        · rw [Array.back?_eq_getElem?, Array.getElem?_eq_none (by omega)] at hb
          cases hb
        · exact e
      rw [Array.back?_eq_getElem?] at hb
      apply Array.ext_getElem?
      intro i
      rw [Array.getElem?_push, Array.getElem?_pop, Array.size_pop]
      by_cases e : i = ops.size - 1
      · rw [if_pos e, e, hb]
      · rw [if_neg e]
        by_cases h : i < ops.size - 1
        · rw [if_pos h]
        · rw [if_neg h, Array.getElem?_eq_none (by omega)]
    have hsz : ops.size = ops.pop.size + 1 := by rw [hp]; simp
    have hg : ∀ (j : Nat) (oj : Oper), ops.pop[j]? = some oj → oj.guard = none := fun j oj hj => by
      have := h1 j (Array.getElem?_eq_some_iff.1 hj).1
      rw [hj] at this
      simp only [Bool.and_eq_true] at this
      exact Option.isNone_iff_eq_none.1 this.1
    have hord : ∀ (i : Nat) (oi : Oper), ops.pop[i]? = some oi → ∀ e ∈ oi.after, e.on < i := fun i oi hi e he => by
      have := h1 i (Array.getElem?_eq_some_iff.1 hi).1
      rw [hi] at this
      simp only [Bool.and_eq_true, Array.all_eq_true_iff_forall_mem, decide_eq_true_eq] at this
      exact this.2 e he
    have hall : ∀ i, i < ops.pop.size → ∃ e ∈ o.after, e.on = i ∧ Region.binds .any e = true := fun i hi => by
      obtain ⟨k, hk, he⟩ := h2 i hi
      simp only [beq_iff_eq] at he
      exact ⟨o.after[k], Array.getElem_mem hk, he⟩
    have key := any_last (P := P) (Q := Q) (md := .any) (o := o) hg hord hall h3 ops.pop.size (Array.replicate ops.pop.size false) a w.drew (by simp) (by
      rw [← hp]
      exact wpAny_of_held _ _ _ _ (h hS))
    refine wp_region_any hm ?_
    rw [← hp, ← Array.replicate_succ, ← hsz] at key
    exact key
end Go.Proofs.YtbpdbggojgijiaaGreatDoor

/- As LastOp, where the last operation waits for some of the others through another one. -/
namespace Go.Proofs.YtbpdbggojgijiaaGreatDoor
open Go Go.RowKit
set_option linter.unusedVariables false

variable {P : Program}
variable {ops : Array Oper} {o : Oper} {Q : Exit → Act → World → Prop} {md : Region.Mode}
/-- whatever has come up, what it waits for has come up -/
def Clo (md : Region.Mode) (ops : Array Oper) (listed : Array Bool) : Prop := ∀ (i : Nat) (oi : Oper), ops[i]? = some oi → listed.getD i false = true → ∀ e ∈ oi.after, Region.binds md e = true → listed.getD e.on false = true
theorem set_mono {listed : Array Bool} {i k : Nat} (h : listed.getD k false = true) : (listed.setIfInBounds i true).getD k false = true := by
  by_cases e : i = k
  · subst e
    simp only [Array.getD, Array.size_setIfInBounds] at h ⊢
    split at h
    · rename_i hl
      rw [dif_pos hl]
      simp
    · cases h
  · rw [getD_set_ne false e]
    exact h
theorem Clo.set {listed : Array Bool} {i : Nat} (hc : Clo md ops listed) (hi : i < listed.size) (hr : i ∈ Region.ready md ops listed) : Clo md ops (listed.setIfInBounds i true) := by
  intro k ok hk hl e he hb
  by_cases ek : i = k
  · subst ek
    obtain ⟨_, oi, h2, h3⟩ := mem_ready.1 hr
    obtain rfl : oi = ok := by rw [h2] at hk; exact Option.some.inj hk
    exact set_mono (h3 e he hb)
  · rw [getD_set_ne false ek] at hl
    exact set_mono (hc k ok hk hl e he hb)
theorem any_last2 (hg : ∀ (j : Nat) (oj : Oper), ops[j]? = some oj → oj.guard = none) (hord : ∀ (i : Nat) (oi : Oper), ops[i]? = some oi → ∀ e ∈ oi.after, e.on < i) (hall : ∀ i, i < ops.size → (∃ e ∈ o.after, e.on = i ∧ Region.binds md e = true) ∨ ∃ (j : Nat) (oj : Oper), ops[j]? = some oj ∧ (∃ e ∈ o.after, e.on = j ∧ Region.binds md e = true) ∧ ∃ e ∈ oj.after, e.on = i ∧ Region.binds md e = true) (hin : ∀ e ∈ o.after, e.on < ops.size) :
    ∀ (fuel : Nat) (listed : Array Bool) (a : Act) (w : World), listed.size = ops.size → Clo md ops listed → wpAny P md ops (Qlast P (ops.push o) Q ops.size) fuel listed a w → wpAny P md (ops.push o) Q (fuel + 1) (listed.push false) a w := by
  have hord' : ∀ (i : Nat) (oi : Oper), ops[i]? = some oi → ∀ e ∈ oi.after, e.on < ops.size := fun i oi h e he => Nat.lt_trans (hord i oi h e he) (Array.getElem?_eq_some_iff.1 h).1
  have hlast : ∀ listed : Array Bool, listed.size = ops.size → Clo md ops listed → (ops.size ∈ Region.ready md (ops.push o) (listed.push false) ↔ ∀ i, i < ops.size → listed.getD i false = true) := fun listed hs hc => by
    rw [mem_ready, ← hs, getD_push_eq, hs]
    constructor
    · rintro ⟨_, oi, h2, h3⟩ i hi
      obtain rfl : o = oi := by simpa using h2
      rcases hall i hi with ⟨e, he, rfl, hb⟩ | ⟨j, oj, hj, ⟨e, he, rfl, hb⟩, e', he', rfl, hb'⟩
      · have := h3 e he hb
        rwa [getD_push_lt (by omega)] at this
      · have := h3 e he hb
        rw [getD_push_lt (by have := hin e he; omega)] at this
        exact hc _ _ hj this e' he' hb'
    · intro h
      exact ⟨rfl, o, by simp, fun e he _ => by rw [getD_push_lt (by have := hin e he; omega)]; exact h _ (hin e he)⟩
  have hfin : ∀ listed : Array Bool, listed.size = ops.size → (∀ i, i < ops.size → listed.getD i false = true) → Region.ready md (ops.push o) ((listed.push false).setIfInBounds ops.size true) = [] := fun listed hs h => by
    refine ready_all fun i hi => ?_
    simp at hi
    by_cases e : i = ops.size
    · subst e
      simp [Array.getD, hs]
    · have hi2 : i < ops.size := by omega
      have h1 := h i hi2
      have e3 : listed.getD i false = listed[i]'(by omega) := by simp [Array.getD, hs, hi2]
      rw [e3] at h1
      have : ((listed.push false).setIfInBounds ops.size true).getD i true = listed[i]'(by omega) := by
        rw [getD_set_ne true (Ne.symm e), getD_push_lt (by omega)]
        simp [Array.getD, hs, hi2]
      rw [this, h1]
  intro fuel
  induction fuel with
  | zero =>
    intro listed a w hs hc H
    have hall2 := fun i hi => (ready_none hs hord H.1 i hi).2
    have hm := (hlast listed hs hc).2 hall2
    refine ⟨fun h => (by rw [h] at hm; cases hm), fun i hi => ?_⟩
    have hin2 : i < ops.size + 1 := by
      obtain ⟨_, oi, h2, _⟩ := mem_ready.1 hi
      have := (Array.getElem?_eq_some_iff.1 h2).1
      simpa using this
    by_cases e : i = ops.size
    · subst e
      exact wpOp_mono (fun a' w' h => ⟨hfin listed hs hall2, h⟩) H.2
    · have := (ready_lt (o := o) hs hord' (by omega)).1 hi
      rw [H.1] at this
      cases this
  | succ fuel ih =>
    intro listed a w hs hc H
    refine ⟨fun h => ?_, fun i hi => ?_⟩
    · exfalso
      have hr : Region.ready md ops listed = [] := by
        apply List.eq_nil_iff_forall_not_mem.2
        intro i hi
        have hil : i < ops.size := by
          obtain ⟨_, oi, h2, _⟩ := mem_ready.1 hi
          exact (Array.getElem?_eq_some_iff.1 h2).1
        have := (ready_lt (o := o) hs hord' hil).2 hi
        rw [h] at this
        cases this
      have hm := (hlast listed hs hc).2 (fun i hi => (ready_none hs hord hr i hi).2)
      rw [h] at hm
      cases hm
    · have hin2 : i < ops.size + 1 := by
        obtain ⟨_, oi, h2, _⟩ := mem_ready.1 hi
        have := (Array.getElem?_eq_some_iff.1 h2).1
        simpa using this
      by_cases e : i = ops.size
      · subst e
        have hall2 := (hlast listed hs hc).1 hi
        have hr : Region.ready md ops listed = [] := ready_all fun i hi => by
          have h1 := hall2 i hi
          have e3 : ∀ d, listed.getD i d = listed[i]'(by omega) := fun d => by simp [Array.getD, hs, hi]
          rw [e3] at h1 ⊢
          exact h1
        refine wpOp_mono (fun a' w' h => ⟨fun _ => h, fun j hj => ?_⟩) (H.1 hr)
        rw [hfin listed hs hall2] at hj
        cases hj
      · have hil : i < ops.size := by omega
        have h1 := H.2 i ((ready_lt (o := o) hs hord' hil).1 hi)
        refine wpOp_q hil hg (fun a' w' h => ?_) h1
        have := ih (listed.setIfInBounds i true) a' w' (by simpa using hs) (hc.set (by omega) ((ready_lt (o := o) hs hord' hil).1 hi)) h
        rw [push_set (by omega)]
        exact this
/-- the same as a question that the kernel answers -/
def lastOK2 (ops : Array Oper) : Bool :=
  match ops.back? with
  | none => false
  | some o => (List.range ops.pop.size).all (fun i => match ops.pop[i]? with | some oi => oi.guard.isNone && oi.after.all (fun e => decide (e.on < i)) | none => true) && (List.range ops.pop.size).all (fun i => (o.after.any fun e => e.on == i && Region.binds .any e) || (List.range ops.pop.size).any fun j => (o.after.any fun e => e.on == j && Region.binds .any e) && match ops.pop[j]? with | some oj => oj.after.any fun e => e.on == i && Region.binds .any e | none => false) && o.after.all fun e => decide (e.on < ops.pop.size)
theorem region_last2 {ops : Array Oper} {id : Nat} {a : Act} {w : World} {S : World → Prop} (hm : P.follows .mixedOrders = true) (hok : lastOK2 ops = true) (hS : S w.drew)
    (h : S w.drew → wpAnyH P .any ops.pop (Qlast P ops Q ops.pop.size) S ops.pop.size (Array.replicate ops.pop.size false) a w.drew) : (Code.region id ops true).wp P Q a w := by
  unfold lastOK2 at hok
  cases hb : ops.back? with
  | none => rw [hb] at hok; cases hok
  | some o =>
    rw [hb] at hok
    rw [Bool.and_eq_true, Bool.and_eq_true] at hok
    obtain ⟨⟨h1, h2⟩, h3⟩ := hok
    rw [List.all_eq_true] at h1 h2
    simp only [List.mem_range] at h1 h2
    simp only [Array.all_eq_true_iff_forall_mem, decide_eq_true_eq] at h3
    have hp : ops = ops.pop.push o := by
      have hs : 0 < ops.size := by
        rcases Nat.eq_zero_or_pos ops.size with e | e
        · rw [Array.back?_eq_getElem?, Array.getElem?_eq_none (by omega)] at hb
          cases hb
        · exact e
      rw [Array.back?_eq_getElem?] at hb
      apply Array.ext_getElem?
      intro i
      rw [Array.getElem?_push, Array.getElem?_pop, Array.size_pop]
      by_cases e : i = ops.size - 1
      · rw [if_pos e, e, hb]
      · rw [if_neg e]
        by_cases h : i < ops.size - 1
        · rw [if_pos h]
        · rw [if_neg h, Array.getElem?_eq_none (by omega)]
    have hsz : ops.size = ops.pop.size + 1 := by rw [hp]; simp
    have hg : ∀ (j : Nat) (oj : Oper), ops.pop[j]? = some oj → oj.guard = none := fun j oj hj => by
      have := h1 j (Array.getElem?_eq_some_iff.1 hj).1
      rw [hj] at this
      simp only [Bool.and_eq_true] at this
      exact Option.isNone_iff_eq_none.1 this.1
    have hord : ∀ (i : Nat) (oi : Oper), ops.pop[i]? = some oi → ∀ e ∈ oi.after, e.on < i := fun i oi hi e he => by
      have := h1 i (Array.getElem?_eq_some_iff.1 hi).1
      rw [hi] at this
      simp only [Bool.and_eq_true, Array.all_eq_true_iff_forall_mem, decide_eq_true_eq] at this
      exact this.2 e he
    have hany : ∀ (x : Oper) (i : Nat), (x.after.any fun e => e.on == i && Region.binds .any e) = true → ∃ e ∈ x.after, e.on = i ∧ Region.binds .any e = true := fun x i hx => by
      obtain ⟨k, hk, he⟩ := Array.any_eq_true.1 hx
      simp only [Bool.and_eq_true, beq_iff_eq] at he
      exact ⟨x.after[k], Array.getElem_mem hk, he⟩
    have hall : ∀ i, i < ops.pop.size → (∃ e ∈ o.after, e.on = i ∧ Region.binds .any e = true) ∨ ∃ (j : Nat) (oj : Oper), ops.pop[j]? = some oj ∧ (∃ e ∈ o.after, e.on = j ∧ Region.binds .any e = true) ∧ ∃ e ∈ oj.after, e.on = i ∧ Region.binds .any e = true := fun i hi => by
      have := h2 i hi
      rw [Bool.or_eq_true] at this
      rcases this with h | h
      · exact .inl (hany o i h)
      · obtain ⟨j, hj, h⟩ := List.any_eq_true.1 h
        rw [Bool.and_eq_true] at h
        cases hoj : ops.pop[j]? with
        | none => rw [hoj] at h; exact absurd h.2 (by simp)
        | some oj =>
          rw [hoj] at h
          exact .inr ⟨j, oj, hoj, hany o j h.1, hany oj i h.2⟩
    have key := any_last2 (P := P) (Q := Q) (md := .any) (o := o) hg hord hall h3 ops.pop.size (Array.replicate ops.pop.size false) a w.drew (by simp) (fun i oi h hl => by simp [Array.getD] at hl) (by
      rw [← hp]
      exact wpAny_of_held _ _ _ _ (h hS))
    refine wp_region_any hm ?_
    rw [← hp, ← Array.replicate_succ, ← hsz] at key
    exact key
end Go.Proofs.YtbpdbggojgijiaaGreatDoor

/- A line is taken: a set. -/
namespace Go.Proofs.YtbpdbggojgijiaaGreatDoor.Src
open Go Go.RowKit Go.Maps
set_option linter.unusedVariables false
set_option linter.unusedSimpArgs false

/-- all blocks but those of some types are as they were -/
def KT (ts : List TypeId) (w w' : World) : Prop := ∀ (b : Nat) (cs : Array Value) (ty : TypeId) (fr : Nat × Nat), w.heap[b]? = some (.cells cs ty fr) → ty ∉ ts → w'.heap[b]? = some (.cells cs ty fr)
theorem KT.trans {ts : List TypeId} {a b c : World} (h : KT ts a b) (k : KT ts b c) : KT ts a c := fun x cs ty fr hx h1 => k x cs ty fr (h x cs ty fr hx h1) h1
theorem KT.refl (ts : List TypeId) (a : World) : KT ts a a := fun x cs ty fr hx h1 => hx
theorem kt_on {ts : List TypeId} {w w' : World} (h : Below w.heap.size w w') : KT ts w w' := fun b cs ty fr hb _ => heap_on hb h
theorem kt_bq {ts : List TypeId} {q : Nat} {l : By} {w w' : World} (h : Bq q w w') (hq : RsA q l w) (ht : 96 ∈ ts) : KT ts w w' := fun b cs ty fr hb h1 => by
  refine (h.block b (Array.getElem?_eq_some_iff.1 hb).1 fun e => ?_).trans hb
  subst e
  unfold RsA at hq
  rw [hb] at hq
  simp at hq
  exact h1 (hq.2.1 ▸ ht)
theorem kt_set {ts : List TypeId} {w : World} {b : Nat} {cs : Array Value} {t : TypeId} {fr : Nat × Nat} (h : w.heap[b]? = some (.cells cs t fr)) (ht : t ∈ ts) (o : Nat) (u : Value) : KT ts w (w.setCell ⟨b, o, none⟩ u) := fun x cs' ty fr' hx h1 => by
  by_cases e : x = b
  · subst e
    rw [h] at hx
    simp at hx
    exact absurd (hx.2.1 ▸ ht) h1
  · exact (Below.heap_setCell _ _ _ _ e).trans hx
theorem kt_b {ts : List TypeId} {t : TypeId} {w w' : World} (h : KeptB t w w') (ht : t ∈ ts) : KT ts w w' := fun b cs ty fr hb h1 => h b cs ty fr hb (fun e => h1 (e ▸ ht))
theorem kt_own {ts : List TypeId} {e : TypeId} {w w' : World} {base S n : Nat} {v : Value} {xs : List Value} (hk : KT ts w w') (h : w.ownsRow base e S v n xs) (he : e ∉ ts) : w'.ownsRow base e S v n xs :=
  ⟨h.1, h.2.imp id fun ⟨g, cap, cur, h1, h2, h3, h4⟩ => ⟨g, cap, cur, h1, h2, hk _ _ _ _ h3 he, h4⟩⟩
theorem ownS_sl {w : World} {B : Nat} {e : TypeId} {S n : Nat} {v : Value} {xs : List Value} (h : w.ownsRow B e S v n xs) : ∃ a c, v = .slice a n c := by
  rcases h.2 with ⟨rfl, rfl⟩ | ⟨g, cap, cur, rfl, _⟩
  · exact ⟨_, _, rfl⟩
  · exact ⟨_, _, rfl⟩
/-- one struct of two cells more -/
theorem more2 {P : Program} (U : World) {ops : Array Oper} {o : Oper} {a : Act} {K : Act → World → Prop} {Q : Exit → Act → World → Prop} {E : Prop} (hgd : o.guard = none) (s x : Operand) (t : TypeId)
    (ho : o.op = .call { callee := .builtin .append, args := #[s, x], argTypes := #[t, t] })
    (base : Nat) (e : TypeId) (i : TypeInfo) (z : Value) (bytes : Nat) (ht : P.underlying t = some (.slice e)) (hi : P.info? e = some i) (hz : i.zero = some z)
    (hsize : i.size = 2) (hby : i.bytes = bytes) (hb4 : bytes ≤ 40) (hzs : z.cells.size = 2)
    (v : Value) (n : Nat) (xs : List Value) (hs : a.eval s = v) (hown : U.ownsRow base e 2 v n xs) (g : Nat) (x1 x2 : Value) (hx : a.eval x = .slice (some ⟨g, 0, none⟩) 1 1) (hg : U.heap[g]? = some (.cells #[x1, x2] e)) (o1 : x1.oneCell' = true) (o2 : x2.oneCell' = true) (hn : n ≤ 1000000) (hbase : base ≤ U.heap.size)
    (h : ∀ a2 c2 w2, Hid (w2.ownsRow base e 2 (.slice a2 (n + 1) c2) (n + 1) (xs ++ [x1, x2])) → Hid (KeptB e U w2) → Hid (Below base U w2) → K (a.put o.dst (.slice a2 (n + 1) c2)) w2) :
    if Region.wanted o (yielded ops a.tmps) = true then Oper.wp P o a U K Q else E := by
  have hbb : (n + 1) * bytes ≤ 1000001 * 40 := Nat.mul_le_mul (by omega) hb4
  refine step_append_row U hgd s x t ho base e i z 2 bytes ht hi hz hsize hby hzs (by decide) v n xs hs hown (some ⟨g, 0, none⟩) 1 1 [x1, x2] hx rfl (.inr ⟨_, rfl, World.news_of_block hg⟩) (by intro u hu; simp at hu; rcases hu with rfl | rfl; exact o1; exact o2) (by unfold maxLen; omega) (by omega) hbase ?_
  intro v2 w2 k1 k2 _
  obtain ⟨a2, c2, rfl⟩ := ownS_sl k1
  exact h a2 c2 w2 k1 (keptB_grown hown k2) ((Below.refl base U).grown k2 hbase fun k hk => (hown.lt k hk).1)
theorem infoS_set : (Tryz.prog.info? 47).map (fun i => (i.zero, i.size, i.bytes)) = some (some (.agg #[.string ⟨#[]⟩, .slice none 0 0]), 2, 40) := by kernel_rfl
set_option maxHeartbeats 8000000 in
set_option maxRecDepth 100000 in
theorem take_set_c (B db : Nat) (l : By) (w : World) (s1 : Option Addr) (n c1 : Nat) (v2 v3 : Value) (xs : List Value) (hd : w.heap[db]? = some (.cells #[.slice s1 n c1, v2, v3] 26)) (hB : B ≤ w.heap.size) (hX : ∀ v : World, Below B w v → EVs v) (hBd : B ≤ db) (ho : w.ownsRow B 47 2 (.slice s1 n c1) n xs) (hn : n ≤ 1000000) (hl : l.length < 4294967281) (hw : hdW l = wSet) :
    Calls Tryz.prog 46 #[.pointer (some ⟨db, 0, none⟩), .agg #[.string ⟨l.toArray⟩]] w fun e w' => e = .returned (.tuple #[]) ∧ ∃ a2 c2, w'.heap[db]? = some (.cells #[.slice a2 (n + 1) c2, v2, v3] 26) ∧ w'.ownsRow B 47 2 (.slice a2 (n + 1) c2) (n + 1) (xs ++ [.string ⟨(wN 1 l).toArray⟩, .slice none 0 0]) ∧ Below B w w' ∧ KT [47, 26, 96] w w' := by
  have hq := (Below.refl _ w).alloc (Nat.le_refl _) (.cells #[.string ⟨l.toArray⟩] 96)
  have hr : RsA w.heap.size l (w.alloc (.cells #[.string ⟨l.toArray⟩] 96)) := World.alloc_heap_new _ _
  have hdl : db < w.heap.size := (Array.getElem?_eq_some_iff.1 hd).1
  have hbq : Below B w (w.alloc (.cells #[.string ⟨l.toArray⟩] 96)) := hq.mono hB
  have HC := hideS (rtext_c w.heap.size l _ hr (hX _ hbq).2.2 hl)
  rw [hw] at HC
  obtain ⟨T, hT⟩ : ∃ T : By, T = wN 1 l := ⟨_, rfl⟩
  have HC2 : Hid (∀ v : World, RsA w.heap.size (tlW l) v → Below B w v → Calls Tryz.prog 71 #[.pointer (some ⟨w.heap.size, 0, none⟩)] v fun e w' => e = .returned (.string ⟨T.toArray⟩) ∧ RsA w.heap.size (tlW (tlW l)) w' ∧ Bq w.heap.size v w') := fun v hv hb => by
    rw [hT]
    exact rtext_c w.heap.size (tlW l) v hv (hX v hb).2.2 (by have := tlW_len l; omega)
  have H0 : Hid (w.heap[db]? = some (.cells #[.slice s1 n c1, v2, v3] 26)) := hd
  have HO := hideS ho
  have HQ := hideS hq
  have HBQ := hideS hbq
  have HR := hideS hr
  rw [← hT]
  clear hd hX ho hw hT hq hbq hr
  go_enter Tryz.func46, Tryz.ntmps46
  go_wp2_with (go_at_call 71; refine HC.out.mono ?_; rintro e v1 ⟨rfl, r1, b1⟩; refine unhid ?_)
  have R1 := hideS r1
  have B1 := hideS b1
  clear r1 b1 HC
  refine hideS ?_
  go_upto_region 3 with fail
  have hsz1 : w.heap.size + 1 ≤ v1.heap.size := by have := B1.out.size; simpa using this
  have D1 : Hid (v1.heap[db]? = some (.cells #[.slice s1 n c1, v2, v3] 26)) := (B1.out.block db (by simp; omega) (by omega)).trans (heap_on H0.out HQ.out)
  have W1 : Hid (Below B w v1) := HBQ.out.trans (B1.out.below (by omega) (by simp; omega))
  have O1 : Hid (v1.ownsRow B 47 2 (.slice s1 n c1) n xs) := kt_own (ts := [96]) ((kt_on HQ.out).trans (kt_bq B1.out HR.out (by decide))) HO.out (by decide)
  have K1 : Hid (KT [47, 26, 96] w v1) := (kt_on HQ.out).trans (kt_bq B1.out HR.out (by decide))
  obtain ⟨i2, hi2, hx0, hx1, hx2⟩ := info_parts infoS_set
  have hS0 : Hid (∀ v : World, v.heap[db]? = some (.cells #[.slice s1 n c1, v2, v3] 26) → v.cell? ⟨db, 0, none⟩ = some (.slice s1 n c1)) := fun v hv => (cells3 hv).1
  refine region_last2 (S := fun v => v.cell? ⟨db, 0, none⟩ = some (.slice s1 n c1)) (by kernel_rfl) (by kernel_rfl) (hS0.out v1.drew D1.out) (fun hHeld => ?_)
  refine wpAnyH_take (i := 0) (v := ?va0) rfl (by kernel_rfl) (by kernel_rfl) (by kernel_rfl) (fun _ _ _ h => h) (Or.inl ⟨by rfl, ?ya0⟩) hHeld ?ra0
  case ya0 => intro w hSw; (try dsimp only at hSw); go_simp; (try with_reducible rfl)
  try simp only [Act.put, List.setIfInBounds_toArray, List.set_cons_zero, List.set_cons_succ]
  refine wpAnyH_take (i := 1) (v := ?va1) rfl (by kernel_rfl) (by kernel_rfl) (by kernel_rfl) (fun _ _ _ h => h) (Or.inl ⟨by rfl, ?ya1⟩) hHeld ?ra1
  case ya1 => intro w hSw; (try dsimp only at hSw); go_simp; (try with_reducible rfl)
  try simp only [Act.put, List.setIfInBounds_toArray, List.set_cons_zero, List.set_cons_succ]
  refine wpAnyH_take (i := 2) (v := ?va2) rfl (by kernel_rfl) (by kernel_rfl) (by kernel_rfl) (fun _ _ _ h => h) (Or.inl ⟨by rfl, ?ya2⟩) hHeld ?ra2
  case ya2 => intro w hSw; (try dsimp only at hSw); go_simp; (try with_reducible rfl)
  try simp only [Act.put, List.setIfInBounds_toArray, List.set_cons_zero, List.set_cons_succ]
  refine wpAnyH_take (i := 3) (v := ?va3) rfl (by kernel_rfl) (by kernel_rfl) (by kernel_rfl) (fun _ _ _ h => h) (Or.inl ⟨by rfl, ?ya3⟩) hHeld ?ra3
  case ya3 => intro w hSw; (try dsimp only at hSw); go_simp; (try with_reducible rfl)
  try simp only [Act.put, List.setIfInBounds_toArray, List.set_cons_zero, List.set_cons_succ]
  refine wpAnyH_take (i := 4) (v := ?va4) rfl (by kernel_rfl) (by kernel_rfl) (by kernel_rfl) (fun _ _ _ h => h) (Or.inl ⟨by rfl, ?ya4⟩) hHeld ?ra4
  case ya4 => intro w hSw; (try dsimp only at hSw); go_simp; (try with_reducible rfl)
  try simp only [Act.put, List.setIfInBounds_toArray, List.set_cons_zero, List.set_cons_succ]
  refine wpAnyH_ready (rs := [5]) (by kernel_rfl) (by simp) ?_
  refine AllReadyH.cons (i := 5) rfl (fun K hK => ?_) AllReadyH.nil
  go_simp
  refine (HC2.out _ (by exact R1.out) (by exact W1.out.drew)).mono ?_
  rintro e u2 ⟨rfl, r2, b2⟩
  have D2 : Hid (u2.heap[db]? = some (.cells #[.slice s1 n c1, v2, v3] 26)) := (b2.block db (by simp; omega) (by omega)).trans D1.out
  have W2 : Hid (Below B w u2) := W1.out.drew.trans (b2.below (by omega) (by simp; omega))
  have K2 : Hid (KT [47, 26, 96] v1.drew u2) := kt_bq b2 R1.out (by decide)
  have O2 : Hid (u2.ownsRow B 47 2 (.slice s1 n c1) n xs) := kt_own (ts := [96]) (kt_bq b2 R1.out (by decide)) (show v1.drew.ownsRow B 47 2 (.slice s1 n c1) n xs from O1.out) (by decide)
  refine hK.out _ _ ?s5 (fun hHeld => ?_)
  case s5 => exact hS0.out _ D2.out
  clear hK K
  try simp only [Act.put, List.setIfInBounds_toArray, List.set_cons_zero, List.set_cons_succ]
  refine wpAnyH_take (i := 6) (v := ?va6) rfl (by kernel_rfl) (by kernel_rfl) (by kernel_rfl) (fun _ _ _ h => h) (Or.inl ⟨by rfl, ?ya6⟩) hHeld ?ra6
  case ya6 => intro w hSw; (try dsimp only at hSw); go_simp; (try with_reducible rfl)
  try simp only [Act.put, List.setIfInBounds_toArray, List.set_cons_zero, List.set_cons_succ]
  refine wpAnyH_ready (rs := [7]) (by kernel_rfl) (by simp) ?_
  refine AllReadyH.cons (i := 7) rfl (fun K hK => ?_) AllReadyH.nil
  go_simp
  have ba := (Below.refl _ u2).alloc (Nat.le_refl _) (.cells #[.string ⟨T.toArray⟩, .slice none 0 0] 47)
  have D3 := hideS (heap_on D2.out ba)
  have W3 : Hid (Below B w (u2.alloc (.cells #[.string ⟨T.toArray⟩, .slice none 0 0] 47))) := W2.out.trans (ba.mono (by have := W2.out.size; omega))
  have O3 := hideS (own_on O2.out ba)
  have K3 : Hid (KT [47, 26, 96] u2 (u2.alloc (.cells #[.string ⟨T.toArray⟩, .slice none 0 0] 47))) := kt_on ba
  clear ba
  refine hK.out _ _ ?s7 (fun hHeld => ?_)
  case s7 => exact hS0.out _ D3.out
  clear hK K
  try simp only [Act.put, List.setIfInBounds_toArray, List.set_cons_zero, List.set_cons_succ]
  refine wpAnyH_ready (rs := [8]) (by kernel_rfl) (by simp) ?_
  refine AllReadyH.cons (i := 8) rfl (fun K hK => ?_) AllReadyH.nil
  refine more2 _ rfl _ _ 22 rfl B 47 i2 _ 40 Tryz.underlying22 hi2 hx0 hx1 hx2 (by decide) rfl _ n xs rfl O3.out _ (.string ⟨T.toArray⟩) (.slice none 0 0) rfl (World.alloc_heap_new u2 _) rfl rfl hn (by have := W2.out.size; simp; omega) ?_
  intro a2 c2 u4 O4 K4 B4
  have D4 : Hid (u4.heap[db]? = some (.cells #[.slice s1 n c1, v2, v3] 26)) := K4.out _ _ _ _ D3.out (by decide)
  have W4 := hideS (W3.out.trans B4.out)
  have K5 : Hid (KT [47, 26, 96] w u4) := ((K1.out.trans (b := v1) (KT.trans (b := u2) K2.out K3.out))).trans (kt_b K4.out (by decide))
  refine hK.out _ _ ?s8 (fun hHeld => ?_)
  case s8 => exact hS0.out _ D4.out
  clear hK K
  try simp only [Act.put, List.setIfInBounds_toArray, List.set_cons_zero, List.set_cons_succ]
  refine wpAnyH_take (i := 9) (v := ?va9) rfl (by kernel_rfl) (by kernel_rfl) (by kernel_rfl) (fun _ _ _ h => h) (Or.inl ⟨by rfl, ?ya9⟩) hHeld ?ra9
  case ya9 => intro w hSw; (try dsimp only at hSw); go_simp; (try with_reducible rfl)
  try simp only [Act.put, List.setIfInBounds_toArray, List.set_cons_zero, List.set_cons_succ]
  refine wpAnyH_take (i := 10) (v := ?va10) rfl (by kernel_rfl) (by kernel_rfl) (by kernel_rfl) (fun _ _ _ h => h) (Or.inl ⟨by rfl, ?ya10⟩) hHeld ?ra10
  case ya10 => intro w hSw; (try dsimp only at hSw); go_simp; (try with_reducible rfl)
  try simp only [Act.put, List.setIfInBounds_toArray, List.set_cons_zero, List.set_cons_succ]
  refine wpAnyH_done (by kernel_rfl) ?_ _
  have ow := (cells3 D4.out).1
  have of : u4.frozen? ⟨db, 0, none⟩ = false := by simp [World.frozen?, D4.out]
  refine qlast_n ?_
  refine wpOp_step rfl (fun K hK => ?_)
  go_simp
  refine hK _ _ ?_
  clear hK K
  go_wp2_with fail
  go_end0
  have KD : KT [26] u4 (u4.setCell ⟨db, 0, none⟩ (.slice a2 (n + 1) c2)) := kt_set D4.out (by decide) _ _
  refine ⟨rfl, a2, c2, ?_, kt_own KD O4.out (by decide), W4.out.setCell (p := ⟨db, 0, none⟩) hBd _, K5.out.trans (kt_set D4.out (by decide) _ _)⟩
  simp [World.setCell, Array.getElem?_modify, D4.out]
end Go.Proofs.YtbpdbggojgijiaaGreatDoor.Src

/- A line is taken: a zone. -/
namespace Go.Proofs.YtbpdbggojgijiaaGreatDoor.Src
open Go Go.RowKit Go.Maps
set_option linter.unusedVariables false
set_option linter.unusedSimpArgs false

theorem infoS_zone : (Tryz.prog.info? 51).map (fun i => (i.zero, i.size, i.bytes)) = some (some (.agg #[.string ⟨#[]⟩, .slice none 0 0]), 2, 40) := by kernel_rfl
set_option maxHeartbeats 8000000 in
set_option maxRecDepth 100000 in
theorem take_zone_c (B db : Nat) (l : By) (w : World) (s1 : Option Addr) (n c1 : Nat) (u1 v3 : Value) (xs : List Value) (hd : w.heap[db]? = some (.cells #[u1, .slice s1 n c1, v3] 26)) (hB : B ≤ w.heap.size) (hX : ∀ v : World, Below B w v → EVs v) (hBd : B ≤ db) (ho : w.ownsRow B 51 2 (.slice s1 n c1) n xs) (hn : n ≤ 1000000) (hl : l.length < 4294967281) (hw : hdW l = wZone) :
    Calls Tryz.prog 46 #[.pointer (some ⟨db, 0, none⟩), .agg #[.string ⟨l.toArray⟩]] w fun e w' => e = .returned (.tuple #[]) ∧ ∃ a2 c2, w'.heap[db]? = some (.cells #[u1, .slice a2 (n + 1) c2, v3] 26) ∧ w'.ownsRow B 51 2 (.slice a2 (n + 1) c2) (n + 1) (xs ++ [.string ⟨(wN 1 l).toArray⟩, .slice none 0 0]) ∧ Below B w w' ∧ KT [51, 26, 96] w w' := by
  have hq := (Below.refl _ w).alloc (Nat.le_refl _) (.cells #[.string ⟨l.toArray⟩] 96)
  have hr : RsA w.heap.size l (w.alloc (.cells #[.string ⟨l.toArray⟩] 96)) := World.alloc_heap_new _ _
  have hdl : db < w.heap.size := (Array.getElem?_eq_some_iff.1 hd).1
  have hbq : Below B w (w.alloc (.cells #[.string ⟨l.toArray⟩] 96)) := hq.mono hB
  have HC := hideS (rtext_c w.heap.size l _ hr (hX _ hbq).2.2 hl)
  rw [hw] at HC
  obtain ⟨T, hT⟩ : ∃ T : By, T = wN 1 l := ⟨_, rfl⟩
  have HC2 : Hid (∀ v : World, RsA w.heap.size (tlW l) v → Below B w v → Calls Tryz.prog 71 #[.pointer (some ⟨w.heap.size, 0, none⟩)] v fun e w' => e = .returned (.string ⟨T.toArray⟩) ∧ RsA w.heap.size (tlW (tlW l)) w' ∧ Bq w.heap.size v w') := fun v hv hb => by
    rw [hT]
    exact rtext_c w.heap.size (tlW l) v hv (hX v hb).2.2 (by have := tlW_len l; omega)
  have H0 : Hid (w.heap[db]? = some (.cells #[u1, .slice s1 n c1, v3] 26)) := hd
  have HO := hideS ho
  have HQ := hideS hq
  have HBQ := hideS hbq
  have HR := hideS hr
  rw [← hT]
  clear hd hX ho hw hT hq hbq hr
  go_enter Tryz.func46, Tryz.ntmps46
  go_wp2_with (go_at_call 71; refine HC.out.mono ?_; rintro e v1 ⟨rfl, r1, b1⟩; refine unhid ?_)
  have R1 := hideS r1
  have B1 := hideS b1
  clear r1 b1 HC
  refine hideS ?_
  go_upto_region 9 with fail
  have hsz1 : w.heap.size + 1 ≤ v1.heap.size := by have := B1.out.size; simpa using this
  have D1 : Hid (v1.heap[db]? = some (.cells #[u1, .slice s1 n c1, v3] 26)) := (B1.out.block db (by simp; omega) (by omega)).trans (heap_on H0.out HQ.out)
  have W1 : Hid (Below B w v1) := HBQ.out.trans (B1.out.below (by omega) (by simp; omega))
  have O1 : Hid (v1.ownsRow B 51 2 (.slice s1 n c1) n xs) := kt_own (ts := [96]) ((kt_on HQ.out).trans (kt_bq B1.out HR.out (by decide))) HO.out (by decide)
  have K1 : Hid (KT [51, 26, 96] w v1) := (kt_on HQ.out).trans (kt_bq B1.out HR.out (by decide))
  obtain ⟨i2, hi2, hx0, hx1, hx2⟩ := info_parts infoS_zone
  have hS0 : Hid (∀ v : World, v.heap[db]? = some (.cells #[u1, .slice s1 n c1, v3] 26) → v.cell? ⟨db, 1, none⟩ = some (.slice s1 n c1)) := fun v hv => (cells3 hv).2.1
  refine region_last2 (S := fun v => v.cell? ⟨db, 1, none⟩ = some (.slice s1 n c1)) (by kernel_rfl) (by kernel_rfl) (hS0.out v1.drew D1.out) (fun hHeld => ?_)
  refine wpAnyH_take (i := 0) (v := ?va0) rfl (by kernel_rfl) (by kernel_rfl) (by kernel_rfl) (fun _ _ _ h => h) (Or.inl ⟨by rfl, ?ya0⟩) hHeld ?ra0
  case ya0 => intro w hSw; (try dsimp only at hSw); go_simp; (try with_reducible rfl)
  try simp only [Act.put, List.setIfInBounds_toArray, List.set_cons_zero, List.set_cons_succ]
  refine wpAnyH_take (i := 1) (v := ?va1) rfl (by kernel_rfl) (by kernel_rfl) (by kernel_rfl) (fun _ _ _ h => h) (Or.inl ⟨by rfl, ?ya1⟩) hHeld ?ra1
  case ya1 => intro w hSw; (try dsimp only at hSw); go_simp; (try with_reducible rfl)
  try simp only [Act.put, List.setIfInBounds_toArray, List.set_cons_zero, List.set_cons_succ]
  refine wpAnyH_take (i := 2) (v := ?va2) rfl (by kernel_rfl) (by kernel_rfl) (by kernel_rfl) (fun _ _ _ h => h) (Or.inl ⟨by rfl, ?ya2⟩) hHeld ?ra2
  case ya2 => intro w hSw; (try dsimp only at hSw); go_simp; (try with_reducible rfl)
  try simp only [Act.put, List.setIfInBounds_toArray, List.set_cons_zero, List.set_cons_succ]
  refine wpAnyH_take (i := 3) (v := ?va3) rfl (by kernel_rfl) (by kernel_rfl) (by kernel_rfl) (fun _ _ _ h => h) (Or.inl ⟨by rfl, ?ya3⟩) hHeld ?ra3
  case ya3 => intro w hSw; (try dsimp only at hSw); go_simp; (try with_reducible rfl)
  try simp only [Act.put, List.setIfInBounds_toArray, List.set_cons_zero, List.set_cons_succ]
  refine wpAnyH_take (i := 4) (v := ?va4) rfl (by kernel_rfl) (by kernel_rfl) (by kernel_rfl) (fun _ _ _ h => h) (Or.inl ⟨by rfl, ?ya4⟩) hHeld ?ra4
  case ya4 => intro w hSw; (try dsimp only at hSw); go_simp; (try with_reducible rfl)
  try simp only [Act.put, List.setIfInBounds_toArray, List.set_cons_zero, List.set_cons_succ]
  refine wpAnyH_ready (rs := [5]) (by kernel_rfl) (by simp) ?_
  refine AllReadyH.cons (i := 5) rfl (fun K hK => ?_) AllReadyH.nil
  go_simp
  refine (HC2.out _ (by exact R1.out) (by exact W1.out.drew)).mono ?_
  rintro e u2 ⟨rfl, r2, b2⟩
  have D2 : Hid (u2.heap[db]? = some (.cells #[u1, .slice s1 n c1, v3] 26)) := (b2.block db (by simp; omega) (by omega)).trans D1.out
  have W2 : Hid (Below B w u2) := W1.out.drew.trans (b2.below (by omega) (by simp; omega))
  have K2 : Hid (KT [51, 26, 96] v1.drew u2) := kt_bq b2 R1.out (by decide)
  have O2 : Hid (u2.ownsRow B 51 2 (.slice s1 n c1) n xs) := kt_own (ts := [96]) (kt_bq b2 R1.out (by decide)) (show v1.drew.ownsRow B 51 2 (.slice s1 n c1) n xs from O1.out) (by decide)
  refine hK.out _ _ ?s5 (fun hHeld => ?_)
  case s5 => exact hS0.out _ D2.out
  clear hK K
  try simp only [Act.put, List.setIfInBounds_toArray, List.set_cons_zero, List.set_cons_succ]
  refine wpAnyH_take (i := 6) (v := ?va6) rfl (by kernel_rfl) (by kernel_rfl) (by kernel_rfl) (fun _ _ _ h => h) (Or.inl ⟨by rfl, ?ya6⟩) hHeld ?ra6
  case ya6 => intro w hSw; (try dsimp only at hSw); go_simp; (try with_reducible rfl)
  try simp only [Act.put, List.setIfInBounds_toArray, List.set_cons_zero, List.set_cons_succ]
  refine wpAnyH_ready (rs := [7]) (by kernel_rfl) (by simp) ?_
  refine AllReadyH.cons (i := 7) rfl (fun K hK => ?_) AllReadyH.nil
  go_simp
  have ba := (Below.refl _ u2).alloc (Nat.le_refl _) (.cells #[.string ⟨T.toArray⟩, .slice none 0 0] 51)
  have D3 := hideS (heap_on D2.out ba)
  have W3 : Hid (Below B w (u2.alloc (.cells #[.string ⟨T.toArray⟩, .slice none 0 0] 51))) := W2.out.trans (ba.mono (by have := W2.out.size; omega))
  have O3 := hideS (own_on O2.out ba)
  have K3 : Hid (KT [51, 26, 96] u2 (u2.alloc (.cells #[.string ⟨T.toArray⟩, .slice none 0 0] 51))) := kt_on ba
  clear ba
  refine hK.out _ _ ?s7 (fun hHeld => ?_)
  case s7 => exact hS0.out _ D3.out
  clear hK K
  try simp only [Act.put, List.setIfInBounds_toArray, List.set_cons_zero, List.set_cons_succ]
  refine wpAnyH_ready (rs := [8]) (by kernel_rfl) (by simp) ?_
  refine AllReadyH.cons (i := 8) rfl (fun K hK => ?_) AllReadyH.nil
  refine more2 _ rfl _ _ 23 rfl B 51 i2 _ 40 Tryz.underlying23 hi2 hx0 hx1 hx2 (by decide) rfl _ n xs rfl O3.out _ (.string ⟨T.toArray⟩) (.slice none 0 0) rfl (World.alloc_heap_new u2 _) rfl rfl hn (by have := W2.out.size; simp; omega) ?_
  intro a2 c2 u4 O4 K4 B4
  have D4 : Hid (u4.heap[db]? = some (.cells #[u1, .slice s1 n c1, v3] 26)) := K4.out _ _ _ _ D3.out (by decide)
  have W4 := hideS (W3.out.trans B4.out)
  have K5 : Hid (KT [51, 26, 96] w u4) := ((K1.out.trans (b := v1) (KT.trans (b := u2) K2.out K3.out))).trans (kt_b K4.out (by decide))
  refine hK.out _ _ ?s8 (fun hHeld => ?_)
  case s8 => exact hS0.out _ D4.out
  clear hK K
  try simp only [Act.put, List.setIfInBounds_toArray, List.set_cons_zero, List.set_cons_succ]
  refine wpAnyH_take (i := 9) (v := ?va9) rfl (by kernel_rfl) (by kernel_rfl) (by kernel_rfl) (fun _ _ _ h => h) (Or.inl ⟨by rfl, ?ya9⟩) hHeld ?ra9
  case ya9 => intro w hSw; (try dsimp only at hSw); go_simp; (try with_reducible rfl)
  try simp only [Act.put, List.setIfInBounds_toArray, List.set_cons_zero, List.set_cons_succ]
  refine wpAnyH_take (i := 10) (v := ?va10) rfl (by kernel_rfl) (by kernel_rfl) (by kernel_rfl) (fun _ _ _ h => h) (Or.inl ⟨by rfl, ?ya10⟩) hHeld ?ra10
  case ya10 => intro w hSw; (try dsimp only at hSw); go_simp; (try with_reducible rfl)
  try simp only [Act.put, List.setIfInBounds_toArray, List.set_cons_zero, List.set_cons_succ]
  refine wpAnyH_done (by kernel_rfl) ?_ _
  have ow := (cells3 D4.out).2.1
  have of : u4.frozen? ⟨db, 1, none⟩ = false := by simp [World.frozen?, D4.out]
  refine qlast_n ?_
  refine wpOp_step rfl (fun K hK => ?_)
  go_simp
  refine hK _ _ ?_
  clear hK K
  go_wp2_with fail
  go_end0
  have KD : KT [26] u4 (u4.setCell ⟨db, 1, none⟩ (.slice a2 (n + 1) c2)) := kt_set D4.out (by decide) _ _
  refine ⟨rfl, a2, c2, ?_, kt_own KD O4.out (by decide), W4.out.setCell (p := ⟨db, 1, none⟩) hBd _, K5.out.trans (kt_set D4.out (by decide) _ _)⟩
  simp [World.setCell, Array.getElem?_modify, D4.out]
end Go.Proofs.YtbpdbggojgijiaaGreatDoor.Src

/- A line is taken: a link. -/
namespace Go.Proofs.YtbpdbggojgijiaaGreatDoor.Src
open Go Go.RowKit Go.Maps
set_option linter.unusedVariables false
set_option linter.unusedSimpArgs false

theorem infoS_link : (Tryz.prog.info? 54).map (fun i => (i.zero, i.size, i.bytes)) = some (some (.agg #[.string ⟨#[]⟩, .string ⟨#[]⟩]), 2, 32) := by kernel_rfl
set_option maxHeartbeats 8000000 in
set_option maxRecDepth 100000 in
theorem take_link_c (B db : Nat) (l : By) (w : World) (s1 : Option Addr) (n c1 : Nat) (u1 v2 : Value) (xs : List Value) (hd : w.heap[db]? = some (.cells #[u1, v2, .slice s1 n c1] 26)) (hB : B ≤ w.heap.size) (hX : ∀ v : World, Below B w v → EVs v) (hBd : B ≤ db) (ho : w.ownsRow B 54 2 (.slice s1 n c1) n xs) (hn : n ≤ 1000000) (hl : l.length < 4294967281) (hw : hdW l = wLink) :
    Calls Tryz.prog 46 #[.pointer (some ⟨db, 0, none⟩), .agg #[.string ⟨l.toArray⟩]] w fun e w' => e = .returned (.tuple #[]) ∧ ∃ a2 c2, w'.heap[db]? = some (.cells #[u1, v2, .slice a2 (n + 1) c2] 26) ∧ w'.ownsRow B 54 2 (.slice a2 (n + 1) c2) (n + 1) (xs ++ [.string ⟨(wN 1 l).toArray⟩, .string ⟨(wN 2 l).toArray⟩]) ∧ Below B w w' ∧ KT [54, 26, 96] w w' := by
  have hq := (Below.refl _ w).alloc (Nat.le_refl _) (.cells #[.string ⟨l.toArray⟩] 96)
  have hr : RsA w.heap.size l (w.alloc (.cells #[.string ⟨l.toArray⟩] 96)) := World.alloc_heap_new _ _
  have hdl : db < w.heap.size := (Array.getElem?_eq_some_iff.1 hd).1
  have hbq : Below B w (w.alloc (.cells #[.string ⟨l.toArray⟩] 96)) := hq.mono hB
  have HC := hideS (rtext_c w.heap.size l _ hr (hX _ hbq).2.2 hl)
  rw [hw] at HC
  obtain ⟨T, hT⟩ : ∃ T : By, T = wN 1 l := ⟨_, rfl⟩
  have HC2 : Hid (∀ v : World, RsA w.heap.size (tlW l) v → Below B w v → Calls Tryz.prog 71 #[.pointer (some ⟨w.heap.size, 0, none⟩)] v fun e w' => e = .returned (.string ⟨T.toArray⟩) ∧ RsA w.heap.size (tlW (tlW l)) w' ∧ Bq w.heap.size v w') := fun v hv hb => by
    rw [hT]
    exact rtext_c w.heap.size (tlW l) v hv (hX v hb).2.2 (by have := tlW_len l; omega)
  obtain ⟨T2, hT2⟩ : ∃ T : By, T = wN 2 l := ⟨_, rfl⟩
  have HC3 : Hid (∀ v : World, RsA w.heap.size (tlW (tlW l)) v → Below B w v → Calls Tryz.prog 71 #[.pointer (some ⟨w.heap.size, 0, none⟩)] v fun e w' => e = .returned (.string ⟨T2.toArray⟩) ∧ RsA w.heap.size (tlW (tlW (tlW l))) w' ∧ Bq w.heap.size v w') := fun v hv hb => by
    rw [hT2]
    exact rtext_c w.heap.size (tlW (tlW l)) v hv (hX v hb).2.2 (by have := tlW_len l; have := tlW_len (tlW l); omega)
  have H0 : Hid (w.heap[db]? = some (.cells #[u1, v2, .slice s1 n c1] 26)) := hd
  have HO := hideS ho
  have HQ := hideS hq
  have HBQ := hideS hbq
  have HR := hideS hr
  rw [← hT, ← hT2]
  clear hd hX ho hw hT hT2 hq hbq hr
  go_enter Tryz.func46, Tryz.ntmps46
  go_wp2_with (go_at_call 71; refine HC.out.mono ?_; rintro e v1 ⟨rfl, r1, b1⟩; refine unhid ?_)
  have R1 := hideS r1
  have B1 := hideS b1
  clear r1 b1 HC
  refine hideS ?_
  go_upto_region 15 with fail
  have hsz1 : w.heap.size + 1 ≤ v1.heap.size := by have := B1.out.size; simpa using this
  have D1 : Hid (v1.heap[db]? = some (.cells #[u1, v2, .slice s1 n c1] 26)) := (B1.out.block db (by simp; omega) (by omega)).trans (heap_on H0.out HQ.out)
  have W1 : Hid (Below B w v1) := HBQ.out.trans (B1.out.below (by omega) (by simp; omega))
  have O1 : Hid (v1.ownsRow B 54 2 (.slice s1 n c1) n xs) := kt_own (ts := [96]) ((kt_on HQ.out).trans (kt_bq B1.out HR.out (by decide))) HO.out (by decide)
  have K1 : Hid (KT [54, 26, 96] w v1) := (kt_on HQ.out).trans (kt_bq B1.out HR.out (by decide))
  obtain ⟨i2, hi2, hx0, hx1, hx2⟩ := info_parts infoS_link
  have hS0 : Hid (∀ v : World, v.heap[db]? = some (.cells #[u1, v2, .slice s1 n c1] 26) → v.cell? ⟨db, 2, none⟩ = some (.slice s1 n c1)) := fun v hv => (cells3 hv).2.2
  refine region_last2 (S := fun v => v.cell? ⟨db, 2, none⟩ = some (.slice s1 n c1)) (by kernel_rfl) (by kernel_rfl) (hS0.out v1.drew D1.out) (fun hHeld => ?_)
  refine wpAnyH_take (i := 0) (v := ?va0) rfl (by kernel_rfl) (by kernel_rfl) (by kernel_rfl) (fun _ _ _ h => h) (Or.inl ⟨by rfl, ?ya0⟩) hHeld ?ra0
  case ya0 => intro w hSw; (try dsimp only at hSw); go_simp; (try with_reducible rfl)
  try simp only [Act.put, List.setIfInBounds_toArray, List.set_cons_zero, List.set_cons_succ]
  refine wpAnyH_take (i := 1) (v := ?va1) rfl (by kernel_rfl) (by kernel_rfl) (by kernel_rfl) (fun _ _ _ h => h) (Or.inl ⟨by rfl, ?ya1⟩) hHeld ?ra1
  case ya1 => intro w hSw; (try dsimp only at hSw); go_simp; (try with_reducible rfl)
  try simp only [Act.put, List.setIfInBounds_toArray, List.set_cons_zero, List.set_cons_succ]
  refine wpAnyH_take (i := 2) (v := ?va2) rfl (by kernel_rfl) (by kernel_rfl) (by kernel_rfl) (fun _ _ _ h => h) (Or.inl ⟨by rfl, ?ya2⟩) hHeld ?ra2
  case ya2 => intro w hSw; (try dsimp only at hSw); go_simp; (try with_reducible rfl)
  try simp only [Act.put, List.setIfInBounds_toArray, List.set_cons_zero, List.set_cons_succ]
  refine wpAnyH_take (i := 3) (v := ?va3) rfl (by kernel_rfl) (by kernel_rfl) (by kernel_rfl) (fun _ _ _ h => h) (Or.inl ⟨by rfl, ?ya3⟩) hHeld ?ra3
  case ya3 => intro w hSw; (try dsimp only at hSw); go_simp; (try with_reducible rfl)
  try simp only [Act.put, List.setIfInBounds_toArray, List.set_cons_zero, List.set_cons_succ]
  refine wpAnyH_take (i := 4) (v := ?va4) rfl (by kernel_rfl) (by kernel_rfl) (by kernel_rfl) (fun _ _ _ h => h) (Or.inl ⟨by rfl, ?ya4⟩) hHeld ?ra4
  case ya4 => intro w hSw; (try dsimp only at hSw); go_simp; (try with_reducible rfl)
  try simp only [Act.put, List.setIfInBounds_toArray, List.set_cons_zero, List.set_cons_succ]
  refine wpAnyH_ready (rs := [5]) (by kernel_rfl) (by simp) ?_
  refine AllReadyH.cons (i := 5) rfl (fun K hK => ?_) AllReadyH.nil
  go_simp
  refine (HC2.out _ (by exact R1.out) (by exact W1.out.drew)).mono ?_
  rintro e u2 ⟨rfl, r2, b2⟩
  have D2 : Hid (u2.heap[db]? = some (.cells #[u1, v2, .slice s1 n c1] 26)) := (b2.block db (by simp; omega) (by omega)).trans D1.out
  have W2 : Hid (Below B w u2) := W1.out.drew.trans (b2.below (by omega) (by simp; omega))
  have K2 : Hid (KT [54, 26, 96] v1.drew u2) := kt_bq b2 R1.out (by decide)
  have O2 : Hid (u2.ownsRow B 54 2 (.slice s1 n c1) n xs) := kt_own (ts := [96]) (kt_bq b2 R1.out (by decide)) (show v1.drew.ownsRow B 54 2 (.slice s1 n c1) n xs from O1.out) (by decide)
  have R2 := hideS r2
  clear r2 b2
  refine hK.out _ _ ?s5 (fun hHeld => ?_)
  case s5 => exact hS0.out _ D2.out
  clear hK K
  try simp only [Act.put, List.setIfInBounds_toArray, List.set_cons_zero, List.set_cons_succ]
  refine wpAnyH_ready (rs := [6]) (by kernel_rfl) (by simp) ?_
  refine AllReadyH.cons (i := 6) rfl (fun K hK => ?_) AllReadyH.nil
  go_simp
  refine (HC3.out _ R2.out W2.out).mono ?_
  rintro e u3 ⟨rfl, r3, b3⟩
  have hsz2 : w.heap.size < u2.heap.size := (Array.getElem?_eq_some_iff.1 (show u2.heap[w.heap.size]? = _ from R2.out)).1
  have D5 : Hid (u3.heap[db]? = some (.cells #[u1, v2, .slice s1 n c1] 26)) := (b3.block db (by omega) (by omega)).trans D2.out
  have W5 : Hid (Below B w u3) := W2.out.trans (b3.below (by omega) (by omega))
  have K6 : Hid (KT [54, 26, 96] v1.drew u3) := K2.out.trans (kt_bq b3 R2.out (by decide))
  have O5 : Hid (u3.ownsRow B 54 2 (.slice s1 n c1) n xs) := kt_own (ts := [96]) (kt_bq b3 R2.out (by decide)) O2.out (by decide)
  refine hK.out _ _ ?s6 (fun hHeld => ?_)
  case s6 => exact hS0.out _ D5.out
  clear hK K r3 b3
  try simp only [Act.put, List.setIfInBounds_toArray, List.set_cons_zero, List.set_cons_succ]
  refine wpAnyH_take (i := 7) (v := ?va7) rfl (by kernel_rfl) (by kernel_rfl) (by kernel_rfl) (fun _ _ _ h => h) (Or.inl ⟨by rfl, ?ya7⟩) hHeld ?ra7
  case ya7 => intro w hSw; (try dsimp only at hSw); go_simp; (try with_reducible rfl)
  try simp only [Act.put, List.setIfInBounds_toArray, List.set_cons_zero, List.set_cons_succ]
  refine wpAnyH_ready (rs := [8]) (by kernel_rfl) (by simp) ?_
  refine AllReadyH.cons (i := 8) rfl (fun K hK => ?_) AllReadyH.nil
  go_simp
  have ba := (Below.refl _ u3).alloc (Nat.le_refl _) (.cells #[.string ⟨T.toArray⟩, .string ⟨T2.toArray⟩] 54)
  have D3 := hideS (heap_on D5.out ba)
  have W3 : Hid (Below B w (u3.alloc (.cells #[.string ⟨T.toArray⟩, .string ⟨T2.toArray⟩] 54))) := W5.out.trans (ba.mono (by have := W5.out.size; omega))
  have O3 := hideS (own_on O5.out ba)
  have K3 : Hid (KT [54, 26, 96] u3 (u3.alloc (.cells #[.string ⟨T.toArray⟩, .string ⟨T2.toArray⟩] 54))) := kt_on ba
  clear ba
  refine hK.out _ _ ?s8 (fun hHeld => ?_)
  case s8 => exact hS0.out _ D3.out
  clear hK K
  try simp only [Act.put, List.setIfInBounds_toArray, List.set_cons_zero, List.set_cons_succ]
  refine wpAnyH_ready (rs := [9]) (by kernel_rfl) (by simp) ?_
  refine AllReadyH.cons (i := 9) rfl (fun K hK => ?_) AllReadyH.nil
  refine more2 _ rfl _ _ 24 rfl B 54 i2 _ 32 Tryz.underlying24 hi2 hx0 hx1 hx2 (by decide) rfl _ n xs rfl O3.out _ (.string ⟨T.toArray⟩) (.string ⟨T2.toArray⟩) rfl (World.alloc_heap_new u3 _) rfl rfl hn (by have := W5.out.size; simp; omega) ?_
  intro a2 c2 u4 O4 K4 B4
  have D4 : Hid (u4.heap[db]? = some (.cells #[u1, v2, .slice s1 n c1] 26)) := K4.out _ _ _ _ D3.out (by decide)
  have W4 := hideS (W3.out.trans B4.out)
  have K5 : Hid (KT [54, 26, 96] w u4) := ((K1.out.trans (b := v1) (KT.trans (b := u3) K6.out K3.out))).trans (kt_b K4.out (by decide))
  refine hK.out _ _ ?s9 (fun hHeld => ?_)
  case s9 => exact hS0.out _ D4.out
  clear hK K
  try simp only [Act.put, List.setIfInBounds_toArray, List.set_cons_zero, List.set_cons_succ]
  refine wpAnyH_take (i := 10) (v := ?va10) rfl (by kernel_rfl) (by kernel_rfl) (by kernel_rfl) (fun _ _ _ h => h) (Or.inl ⟨by rfl, ?ya10⟩) hHeld ?ra10
  case ya10 => intro w hSw; (try dsimp only at hSw); go_simp; (try with_reducible rfl)
  try simp only [Act.put, List.setIfInBounds_toArray, List.set_cons_zero, List.set_cons_succ]
  refine wpAnyH_take (i := 11) (v := ?va11) rfl (by kernel_rfl) (by kernel_rfl) (by kernel_rfl) (fun _ _ _ h => h) (Or.inl ⟨by rfl, ?ya11⟩) hHeld ?ra11
  case ya11 => intro w hSw; (try dsimp only at hSw); go_simp; (try with_reducible rfl)
  try simp only [Act.put, List.setIfInBounds_toArray, List.set_cons_zero, List.set_cons_succ]
  refine wpAnyH_done (by kernel_rfl) ?_ _
  have ow := (cells3 D4.out).2.2
  have of : u4.frozen? ⟨db, 2, none⟩ = false := by simp [World.frozen?, D4.out]
  refine qlast_n ?_
  refine wpOp_step rfl (fun K hK => ?_)
  go_simp
  refine hK _ _ ?_
  clear hK K
  go_wp2_with fail
  go_end0
  have KD : KT [26] u4 (u4.setCell ⟨db, 2, none⟩ (.slice a2 (n + 1) c2)) := kt_set D4.out (by decide) _ _
  refine ⟨rfl, a2, c2, ?_, kt_own KD O4.out (by decide), W4.out.setCell (p := ⟨db, 2, none⟩) hBd _, K5.out.trans (kt_set D4.out (by decide) _ _)⟩
  simp [World.setCell, Array.getElem?_modify, D4.out]
end Go.Proofs.YtbpdbggojgijiaaGreatDoor.Src

/- A line is taken: a rule. -/
namespace Go.Proofs.YtbpdbggojgijiaaGreatDoor.Src
open Go Go.RowKit Go.Maps
set_option linter.unusedVariables false
set_option linter.unusedSimpArgs false

/-- all blocks but those of some types, and but one, are as they were -/
def KO (o : Option Nat) (ts : List TypeId) (w w' : World) : Prop := ∀ (b : Nat) (cs : Array Value) (ty : TypeId) (fr : Nat × Nat), w.heap[b]? = some (.cells cs ty fr) → ty ∉ ts → some b ≠ o → w'.heap[b]? = some (.cells cs ty fr)
theorem KO.trans {o : Option Nat} {ts : List TypeId} {a b c : World} (h : KO o ts a b) (k : KO o ts b c) : KO o ts a c := fun x cs ty fr hx h1 h2 => k x cs ty fr (h x cs ty fr hx h1 h2) h1 h2
theorem ko_kt {o : Option Nat} {ts : List TypeId} {a b : World} (h : KT ts a b) : KO o ts a b := fun x cs ty fr hx h1 h2 => h x cs ty fr hx h1
theorem kt_more {ts ts' : List TypeId} {a b : World} (h : KT ts a b) (hm : ∀ t, t ∈ ts → t ∈ ts') : KT ts' a b := fun x cs ty fr hx h1 => h x cs ty fr hx (fun e => h1 (hm _ e))
theorem ko_grown {ts : List TypeId} {w w' : World} {o : Option Nat} (hg : w.grownBy w' o) : KO o ts w w' := fun b cs ty fr hb h1 h2 => (hg.block b (Array.getElem?_eq_some_iff.1 hb).1 h2).trans hb
theorem own_put {w : World} {B n S j c : Nat} {e : TypeId} {g : Nat} {xs : List Value} (h : w.ownsRow B e S (.slice (some ⟨g, 0, none⟩) n c) n xs) (u : Value) : (w.setCell ⟨g, j, none⟩ u).ownsRow B e S (.slice (some ⟨g, 0, none⟩) n c) n (xs.set j u) := by
  refine ⟨by simpa using h.1, ?_⟩
  rcases h.2 with ⟨hv, _⟩ | ⟨g', cap, cur, hv, h2, h3, h4, h5, h6, h7⟩
  · cases hv
  · refine .inr ⟨g', cap, cur.setIfInBounds j u, hv, h2, ?_, h4, h5, by simpa using h6, ?_⟩
    · obtain rfl : g = g' := by
        injection hv with h8 h9 h10
        injection h8 with h8
        injection h8
      simp [World.setCell, Array.getElem?_modify, h3]
    · rw [← h7, Array.toList_setIfInBounds, List.take_set]
theorem own_block {w : World} {B n S c : Nat} {e : TypeId} {g : Nat} {xs : List Value} (h : w.ownsRow B e S (.slice (some ⟨g, 0, none⟩) n c) n xs) : ∃ cur, w.heap[g]? = some (.cells cur e (0, 0)) ∧ B ≤ g := by
  rcases h.2 with ⟨hv, _⟩ | ⟨g', cap, cur, hv, h2, h3, _⟩
  · cases hv
  · obtain rfl : g = g' := by
      injection hv with h8 h9 h10
      injection h8 with h8
      injection h8
    exact ⟨cur, h3, h2⟩
theorem infoS_rule : (Tryz.prog.info? 65).map (fun i => (i.zero, i.size, i.bytes)) = some (some (.agg #[.int .i64 0, .int .i64 0, .int .i64 0, .int .i64 0, .int .i64 0, .int .i64 0, .int .i64 0, .int .i64 0, .string ⟨#[]⟩]), 9, 80) := by kernel_rfl
set_option maxHeartbeats 8000000 in
set_option maxRecDepth 100000 in
theorem take_rule_c (B db g m : Nat) (l : By) (w : World) (c1 : Nat) (v2 v3 : Value) (xs ys : List Value) (ra : Option Addr) (rn rc : Nat) (hd : w.heap[db]? = some (.cells #[.slice (some ⟨g, 0, none⟩) (m + 1) c1, v2, v3] 26)) (hB : B ≤ w.heap.size) (hX : ∀ v : World, Below B w v → EVs v) (hBd : B ≤ db) (ho : w.ownsRow B 47 2 (.slice (some ⟨g, 0, none⟩) (m + 1) c1) (m + 1) xs) (hx : xs[m * 2 + 1]? = some (.slice ra rn rc)) (hr : w.ownsRow B 65 9 (.slice ra rn rc) rn ys) (hn : m ≤ 1000000) (hrn : rn ≤ 1000000) (hl : l.length < 4294967281) (hw : hdW l = wRule) (R : List Value) (hR : R = [.int .i64 (numA (wN 1 l)), .int .i64 (numA (wN 2 l)), .int .i64 (numA (wN 3 l)), .int .i64 (numA (wN 4 l)), .int .i64 (numA (wN 5 l)), .int .i64 (numA (wN 6 l)), .int .i64 (numA (wN 7 l)), .int .i64 (numA (wN 8 l)), .string ⟨(if wN 9 l = [45] then [] else wN 9 l).toArray⟩]) :
    Calls Tryz.prog 46 #[.pointer (some ⟨db, 0, none⟩), .agg #[.string ⟨l.toArray⟩]] w fun e w' => e = .returned (.tuple #[]) ∧ ∃ a2 c2, w'.heap[db]? = some (.cells #[.slice (some ⟨g, 0, none⟩) (m + 1) c1, v2, v3] 26) ∧ w'.ownsRow B 47 2 (.slice (some ⟨g, 0, none⟩) (m + 1) c1) (m + 1) (xs.set (m * 2 + 1) (.slice a2 (rn + 1) c2)) ∧ w'.ownsRow B 65 9 (.slice a2 (rn + 1) c2) (rn + 1) (ys ++ R) ∧ Below B w w' ∧ KO (Value.slice ra rn rc).ownBlock [47, 96] w w' ∧ ((Value.slice a2 (rn + 1) c2).ownBlock = (Value.slice ra rn rc).ownBlock ∨ ∃ k, (Value.slice a2 (rn + 1) c2).ownBlock = some k ∧ w.heap.size ≤ k) := by
  have hq := (Below.refl _ w).alloc (Nat.le_refl _) (.cells #[.string ⟨l.toArray⟩] 96)
  have hrs : RsA w.heap.size l (w.alloc (.cells #[.string ⟨l.toArray⟩] 96)) := World.alloc_heap_new _ _
  have hdl : db < w.heap.size := (Array.getElem?_eq_some_iff.1 hd).1
  have hbq : Below B w (w.alloc (.cells #[.string ⟨l.toArray⟩] 96)) := hq.mono hB
  have HC := hideS (rtext_c w.heap.size l _ hrs (hX _ hbq).2.2 hl)
  rw [hw] at HC
  have HC2 : Hid (∀ v : World, RsA w.heap.size (tlW l) v → Below B w v → Calls Tryz.prog 72 #[.pointer (some ⟨w.heap.size, 0, none⟩)] v fun e w' => e = .returned (.agg R.toArray) ∧ (∃ l', RsA w.heap.size l' w') ∧ Bq w.heap.size v w') := fun v hv hb => by
    have := rrule_c B w.heap.size (tlW l) v hv (fun u hu => hX u (hb.trans hu)) hB (by have := tlW_len l; omega)
    rw [hR]
    exact this
  have H0 : Hid (w.heap[db]? = some (.cells #[.slice (some ⟨g, 0, none⟩) (m + 1) c1, v2, v3] 26)) := hd
  have HO := hideS ho
  have HRr := hideS hr
  have HQ := hideS hq
  have HBQ := hideS hbq
  have HR := hideS hrs
  have HXs := hideS hx
  obtain ⟨r0, r1, r2, r3, r4, r5, r6, r7, r8, hR9⟩ : ∃ r0 r1 r2 r3 r4 r5 r6 r7 r8, R = [.int .i64 r0, .int .i64 r1, .int .i64 r2, .int .i64 r3, .int .i64 r4, .int .i64 r5, .int .i64 r6, .int .i64 r7, .string r8] := ⟨_, _, _, _, _, _, _, _, _, hR⟩
  clear hR
  subst hR9
  clear hd hX ho hw hq hbq hrs hr hx
  go_enter Tryz.func46, Tryz.ntmps46
  go_wp2_with (go_at_call 71; refine HC.out.mono ?_; rintro e v1 ⟨rfl, t1, b1⟩; refine unhid ?_)
  have R1 := hideS t1
  have B1 := hideS b1
  clear t1 b1 HC
  refine hideS ?_
  have hsz1 : w.heap.size + 1 ≤ v1.heap.size := by have := B1.out.size; simpa using this
  have D1 : Hid (v1.heap[db]? = some (.cells #[.slice (some ⟨g, 0, none⟩) (m + 1) c1, v2, v3] 26)) := (B1.out.block db (by simp; omega) (by omega)).trans (heap_on H0.out HQ.out)
  have d1 := (cells3 D1.out).1
  have hk0 : (m : Int) + 1 - 1 = m := by omega
  go_upto_region 7 with fail
  clear d1
  have W1 : Hid (Below B w v1) := HBQ.out.trans (B1.out.below (by omega) (by simp; omega))
  have KR1 : Hid (KT [96] w v1) := (kt_on HQ.out).trans (kt_bq B1.out HR.out (by decide))
  have O1 : Hid (v1.ownsRow B 47 2 (.slice (some ⟨g, 0, none⟩) (m + 1) c1) (m + 1) xs) := kt_own KR1.out HO.out (by decide)
  have P1 : Hid (v1.ownsRow B 65 9 (.slice ra rn rc) rn ys) := kt_own KR1.out HRr.out (by decide)
  obtain ⟨i2, hi2, hx0, hx1, hx2⟩ := info_parts infoS_rule
  have j0 : decide ((m : Int) < 0) = false := by simp
  have j1 : decide (m + 1 ≤ m) = false := by simp
  have j2 : (m : Int) < (m : Int) + 1 := by omega
  have j3 : m < m + 1 := by omega
  have hS0 : Hid (∀ v : World, v.heap[db]? = some (.cells #[.slice (some ⟨g, 0, none⟩) (m + 1) c1, v2, v3] 26) → v.ownsRow B 47 2 (.slice (some ⟨g, 0, none⟩) (m + 1) c1) (m + 1) xs → v.cell? ⟨db, 0, none⟩ = some (.slice (some ⟨g, 0, none⟩) (m + 1) c1) ∧ v.cell? ⟨g, m * 2 + 1, none⟩ = some (.slice ra rn rc)) := fun v hv ho => ⟨(cells3 hv).1, by
    have := ho.cells (g := g) rfl _ _ HXs.out
    simpa [Addr.add] using this⟩
  refine region_last2 (S := fun v => v.cell? ⟨db, 0, none⟩ = some (.slice (some ⟨g, 0, none⟩) (m + 1) c1) ∧ v.cell? ⟨g, m * 2 + 1, none⟩ = some (.slice ra rn rc)) (by kernel_rfl) (by kernel_rfl) (hS0.out v1.drew D1.out O1.out) (fun hHeld => ?_)
  refine wpAnyH_take (i := 0) (v := ?va0) rfl (by kernel_rfl) (by kernel_rfl) (by kernel_rfl) (fun _ _ _ h => h) (Or.inl ⟨by rfl, ?ya0⟩) hHeld ?ra0
  case ya0 => intro w hSw; (try dsimp only at hSw); obtain ⟨hS1, hS2⟩ := hSw; go_simp; (try with_reducible rfl)
  try simp only [Act.put, List.setIfInBounds_toArray, List.set_cons_zero, List.set_cons_succ]
  refine wpAnyH_take (i := 1) (v := ?va1) rfl (by kernel_rfl) (by kernel_rfl) (by kernel_rfl) (fun _ _ _ h => h) (Or.inl ⟨by rfl, ?ya1⟩) hHeld ?ra1
  case ya1 => intro w hSw; (try dsimp only at hSw); obtain ⟨hS1, hS2⟩ := hSw; go_simp; (try with_reducible rfl)
  try simp only [Act.put, List.setIfInBounds_toArray, List.set_cons_zero, List.set_cons_succ]
  refine wpAnyH_take (i := 2) (v := ?va2) rfl (by kernel_rfl) (by kernel_rfl) (by kernel_rfl) (fun _ _ _ h => h) (Or.inl ⟨by rfl, ?ya2⟩) hHeld ?ra2
  case ya2 => intro w hSw; (try dsimp only at hSw); obtain ⟨hS1, hS2⟩ := hSw; go_simp; (try with_reducible rfl)
  try simp only [Act.put, List.setIfInBounds_toArray, List.set_cons_zero, List.set_cons_succ]
  refine wpAnyH_take (i := 3) (v := ?va3) rfl (by kernel_rfl) (by kernel_rfl) (by kernel_rfl) (fun _ _ _ h => h) (Or.inl ⟨by rfl, ?ya3⟩) hHeld ?ra3
  case ya3 => intro w hSw; (try dsimp only at hSw); obtain ⟨hS1, hS2⟩ := hSw; go_simp; (try with_reducible rfl)
  try simp only [Act.put, List.setIfInBounds_toArray, List.set_cons_zero, List.set_cons_succ]
  refine wpAnyH_take (i := 4) (v := ?va4) rfl (by kernel_rfl) (by kernel_rfl) (by kernel_rfl) (fun _ _ _ h => h) (Or.inl ⟨by rfl, ?ya4⟩) hHeld ?ra4
  case ya4 => intro w hSw; (try dsimp only at hSw); obtain ⟨hS1, hS2⟩ := hSw; go_simp; (try with_reducible rfl)
  try simp only [Act.put, List.setIfInBounds_toArray, List.set_cons_zero, List.set_cons_succ]
  refine wpAnyH_take (i := 5) (v := ?va5) rfl (by kernel_rfl) (by kernel_rfl) (by kernel_rfl) (fun _ _ _ h => h) (Or.inl ⟨by rfl, ?ya5⟩) hHeld ?ra5
  case ya5 => intro w hSw; (try dsimp only at hSw); obtain ⟨hS1, hS2⟩ := hSw; go_simp; (try with_reducible rfl)
  try simp only [Act.put, List.setIfInBounds_toArray, List.set_cons_zero, List.set_cons_succ]
  refine wpAnyH_take (i := 6) (v := ?va6) rfl (by kernel_rfl) (by kernel_rfl) (by kernel_rfl) (fun _ _ _ h => h) (Or.inl ⟨by rfl, ?ya6⟩) hHeld ?ra6
  case ya6 => intro w hSw; (try dsimp only at hSw); obtain ⟨hS1, hS2⟩ := hSw; go_simp; (try with_reducible rfl)
  try simp only [Act.put, List.setIfInBounds_toArray, List.set_cons_zero, List.set_cons_succ]
  refine wpAnyH_take (i := 7) (v := ?va7) rfl (by kernel_rfl) (by kernel_rfl) (by kernel_rfl) (fun _ _ _ h => h) (Or.inl ⟨by rfl, ?ya7⟩) hHeld ?ra7
  case ya7 => intro w hSw; (try dsimp only at hSw); obtain ⟨hS1, hS2⟩ := hSw; go_simp; (try with_reducible rfl)
  try simp only [Act.put, List.setIfInBounds_toArray, List.set_cons_zero, List.set_cons_succ]
  refine wpAnyH_take (i := 8) (v := ?va8) rfl (by kernel_rfl) (by kernel_rfl) (by kernel_rfl) (fun _ _ _ h => h) (Or.inl ⟨by rfl, ?ya8⟩) hHeld ?ra8
  case ya8 => intro w hSw; (try dsimp only at hSw); obtain ⟨hS1, hS2⟩ := hSw; go_simp; (try with_reducible rfl)
  try simp only [Act.put, List.setIfInBounds_toArray, List.set_cons_zero, List.set_cons_succ]
  refine wpAnyH_take (i := 9) (v := ?va9) rfl (by kernel_rfl) (by kernel_rfl) (by kernel_rfl) (fun _ _ _ h => h) (Or.inl ⟨by rfl, ?ya9⟩) hHeld ?ra9
  case ya9 => intro w hSw; (try dsimp only at hSw); obtain ⟨hS1, hS2⟩ := hSw; go_simp; (try with_reducible rfl)
  try simp only [Act.put, List.setIfInBounds_toArray, List.set_cons_zero, List.set_cons_succ]
  refine wpAnyH_take (i := 10) (v := ?va10) rfl (by kernel_rfl) (by kernel_rfl) (by kernel_rfl) (fun _ _ _ h => h) (Or.inl ⟨by rfl, ?ya10⟩) hHeld ?ra10
  case ya10 => intro w hSw; (try dsimp only at hSw); obtain ⟨hS1, hS2⟩ := hSw; go_simp; (try with_reducible rfl)
  try simp only [Act.put, List.setIfInBounds_toArray, List.set_cons_zero, List.set_cons_succ]
  refine wpAnyH_take (i := 11) (v := ?va11) rfl (by kernel_rfl) (by kernel_rfl) (by kernel_rfl) (fun _ _ _ h => h) (Or.inl ⟨by rfl, ?ya11⟩) hHeld ?ra11
  case ya11 => intro w hSw; (try dsimp only at hSw); obtain ⟨hS1, hS2⟩ := hSw; go_simp; (try with_reducible rfl)
  try simp only [Act.put, List.setIfInBounds_toArray, List.set_cons_zero, List.set_cons_succ]
  refine wpAnyH_take (i := 12) (v := ?va12) rfl (by kernel_rfl) (by kernel_rfl) (by kernel_rfl) (fun _ _ _ h => h) (Or.inl ⟨by rfl, ?ya12⟩) hHeld ?ra12
  case ya12 => intro w hSw; (try dsimp only at hSw); obtain ⟨hS1, hS2⟩ := hSw; go_simp; (try with_reducible rfl)
  try simp only [Act.put, List.setIfInBounds_toArray, List.set_cons_zero, List.set_cons_succ]
  refine wpAnyH_ready (rs := [13]) (by kernel_rfl) (by simp) ?_
  refine AllReadyH.cons (i := 13) rfl (fun K hK => ?_) AllReadyH.nil
  go_simp
  refine (HC2.out _ (by exact R1.out) (by exact W1.out.drew)).mono ?_
  rintro e u2 ⟨rfl, ⟨l2, t2⟩, b2⟩
  have D2 : Hid (u2.heap[db]? = some (.cells #[.slice (some ⟨g, 0, none⟩) (m + 1) c1, v2, v3] 26)) := (b2.block db (by simp; omega) (by omega)).trans D1.out
  have W2 : Hid (Below B w u2) := W1.out.drew.trans (b2.below (by omega) (by simp; omega))
  have KR2 : Hid (KT [96] v1.drew u2) := kt_bq b2 R1.out (by decide)
  have O2 : Hid (u2.ownsRow B 47 2 (.slice (some ⟨g, 0, none⟩) (m + 1) c1) (m + 1) xs) := kt_own KR2.out (show v1.drew.ownsRow B 47 2 (.slice (some ⟨g, 0, none⟩) (m + 1) c1) (m + 1) xs from O1.out) (by decide)
  have P2 : Hid (u2.ownsRow B 65 9 (.slice ra rn rc) rn ys) := kt_own KR2.out (show v1.drew.ownsRow B 65 9 (.slice ra rn rc) rn ys from P1.out) (by decide)
  clear t2 b2
  refine hK.out _ _ ?s13 (fun hHeld => ?_)
  case s13 => exact hS0.out _ D2.out O2.out
  clear hK K
  try simp only [Act.put, List.setIfInBounds_toArray, List.set_cons_zero, List.set_cons_succ]
  refine wpAnyH_ready (rs := [14]) (by kernel_rfl) (by simp) ?_
  refine AllReadyH.cons (i := 14) rfl (fun K hK => ?_) AllReadyH.nil
  go_simp
  have ba := (Below.refl _ u2).alloc (Nat.le_refl _) (.cells #[.int .i64 r0, .int .i64 r1, .int .i64 r2, .int .i64 r3, .int .i64 r4, .int .i64 r5, .int .i64 r6, .int .i64 r7, .string r8] 65)
  have D3 := hideS (heap_on D2.out ba)
  have W3 : Hid (Below B w (u2.alloc (.cells #[.int .i64 r0, .int .i64 r1, .int .i64 r2, .int .i64 r3, .int .i64 r4, .int .i64 r5, .int .i64 r6, .int .i64 r7, .string r8] 65))) := W2.out.trans (ba.mono (by have := W2.out.size; omega))
  have O3 := hideS (own_on O2.out ba)
  have P3 := hideS (own_on P2.out ba)
  have K3 : Hid (KO (Value.slice ra rn rc).ownBlock [47, 96] w (u2.alloc (.cells #[.int .i64 r0, .int .i64 r1, .int .i64 r2, .int .i64 r3, .int .i64 r4, .int .i64 r5, .int .i64 r6, .int .i64 r7, .string r8] 65))) := ko_kt (kt_more (KT.trans (b := u2) (KT.trans (b := v1.drew) KR1.out KR2.out) (kt_on ba)) (fun t ht => List.mem_cons_of_mem _ ht))
  clear ba
  refine hK.out _ _ ?s14 (fun hHeld => ?_)
  case s14 => exact hS0.out _ D3.out O3.out
  clear hK K
  try simp only [Act.put, List.setIfInBounds_toArray, List.set_cons_zero, List.set_cons_succ]
  refine wpAnyH_ready (rs := [15]) (by kernel_rfl) (by simp) ?_
  refine AllReadyH.cons (i := 15) rfl (fun K hK => ?_) AllReadyH.nil
  refine step_append_row _ rfl _ _ 45 rfl B 65 i2 _ 9 80 Tryz.underlying45 hi2 hx0 hx1 hx2 rfl (by decide) _ rn ys rfl P3.out _ 1 1 [.int .i64 r0, .int .i64 r1, .int .i64 r2, .int .i64 r3, .int .i64 r4, .int .i64 r5, .int .i64 r6, .int .i64 r7, .string r8] rfl rfl (.inr ⟨_, rfl, World.news_of_block (World.alloc_heap_new u2 _)⟩) (by intro u hu; simp at hu; rcases hu with rfl | rfl | rfl | rfl | rfl | rfl | rfl | rfl | rfl <;> rfl) (by unfold maxLen; omega) (by omega) (by have := W2.out.size; simp; omega) ?_
  intro vr u4 O4 G4 hat
  obtain ⟨a2, c2, rfl⟩ := ownS_sl O4
  have K4 : Hid (KO (Value.slice ra rn rc).ownBlock [47, 96] w u4) := K3.out.trans (ko_grown G4)
  have KB := hideS (keptB_grown P3.out G4)
  have D4 : Hid (u4.heap[db]? = some (.cells #[.slice (some ⟨g, 0, none⟩) (m + 1) c1, v2, v3] 26)) := KB.out _ _ _ _ D3.out (by decide)
  have S4 : Hid (u4.ownsRow B 47 2 (.slice (some ⟨g, 0, none⟩) (m + 1) c1) (m + 1) xs) := keptB_own KB.out O3.out (by decide)
  have W4 : Hid (Below B w u4) := W3.out.grown G4 (by have := W2.out.size; simp; omega) fun k hk => (P3.out.lt k hk).1
  have HAT : Hid ((Value.slice a2 (rn + 1) c2).ownBlock = (Value.slice ra rn rc).ownBlock ∨ ∃ k, (Value.slice a2 (rn + 1) c2).ownBlock = some k ∧ w.heap.size ≤ k) := hat.imp id fun h => ⟨_, h, by have := W2.out.size; simp; omega⟩
  have P4 := hideS O4
  clear O4 G4
  refine hK.out _ _ ?s15 (fun hHeld => ?_)
  case s15 => exact hS0.out _ D4.out S4.out
  clear hK K
  try simp only [Act.put, List.setIfInBounds_toArray, List.set_cons_zero, List.set_cons_succ]
  refine wpAnyH_take (i := 16) (v := ?va16) rfl (by kernel_rfl) (by kernel_rfl) (by kernel_rfl) (fun _ _ _ h => h) (Or.inl ⟨by rfl, ?ya16⟩) hHeld ?ra16
  case ya16 => intro w hSw; (try dsimp only at hSw); obtain ⟨hS1, hS2⟩ := hSw; go_simp; (try with_reducible rfl)
  try simp only [Act.put, List.setIfInBounds_toArray, List.set_cons_zero, List.set_cons_succ]
  refine wpAnyH_take (i := 17) (v := ?va17) rfl (by kernel_rfl) (by kernel_rfl) (by kernel_rfl) (fun _ _ _ h => h) (Or.inl ⟨by rfl, ?ya17⟩) hHeld ?ra17
  case ya17 => intro w hSw; (try dsimp only at hSw); obtain ⟨hS1, hS2⟩ := hSw; go_simp; (try with_reducible rfl)
  try simp only [Act.put, List.setIfInBounds_toArray, List.set_cons_zero, List.set_cons_succ]
  refine wpAnyH_done (by kernel_rfl) ?_ _
  obtain ⟨ow0, ow⟩ := hS0.out u4 D4.out S4.out
  obtain ⟨cur, hcur, hBg⟩ := own_block S4.out
  have of : u4.frozen? ⟨g, m * 2 + 1, none⟩ = false := Lib.frozen_of_heap hcur _
  refine qlast_n ?_
  refine wpOp_step rfl (fun K hK => ?_)
  go_simp
  refine hK _ _ ?_
  clear hK K
  go_wp2_with fail
  go_end0
  have KD : KT [47] u4 (u4.setCell ⟨g, m * 2 + 1, none⟩ (.slice a2 (rn + 1) c2)) := kt_set hcur (by decide) _ _
  exact ⟨rfl, a2, c2, KD _ _ _ _ D4.out (by decide), own_put S4.out _, kt_own KD P4.out (by decide), W4.out.setCell (p := ⟨g, m * 2 + 1, none⟩) hBg _, K4.out.trans (ko_kt (kt_set hcur (by decide) _ _)), HAT.out⟩
end Go.Proofs.YtbpdbggojgijiaaGreatDoor.Src

/- A line is taken: an era. -/
namespace Go.Proofs.YtbpdbggojgijiaaGreatDoor.Src
open Go Go.RowKit Go.Maps
set_option linter.unusedVariables false
set_option linter.unusedSimpArgs false

theorem infoS_era : (Tryz.prog.info? 67).map (fun i => (i.zero, i.size, i.bytes)) = some (some (.agg #[.int .i64 0, .int .i64 0, .int .i64 0, .string ⟨#[]⟩, .int .i64 0]), 5, 48) := by kernel_rfl
set_option maxHeartbeats 8000000 in
set_option maxRecDepth 100000 in
theorem take_era_c (B db g m : Nat) (l : By) (w : World) (c1 : Nat) (v2 v3 : Value) (xs ys : List Value) (ra : Option Addr) (rn rc : Nat) (hd : w.heap[db]? = some (.cells #[v2, .slice (some ⟨g, 0, none⟩) (m + 1) c1, v3] 26)) (hB : B ≤ w.heap.size) (hX : ∀ v : World, Below B w v → EVs v) (hBd : B ≤ db) (ho : w.ownsRow B 51 2 (.slice (some ⟨g, 0, none⟩) (m + 1) c1) (m + 1) xs) (hx : xs[m * 2 + 1]? = some (.slice ra rn rc)) (hr : w.ownsRow B 67 5 (.slice ra rn rc) rn ys) (hn : m ≤ 1000000) (hrn : rn ≤ 1000000) (hl : l.length < 4294967281) (hw : hdW l = wEra) (R : List Value) (hR : R = [.int .i64 (numA (wN 1 l)), .int .i64 (numA (wN 2 l)), .int .i64 (numA (wN 3 l)), .string ⟨(wN 4 l).toArray⟩, .int .i64 (numA (wN 5 l))]) :
    Calls Tryz.prog 46 #[.pointer (some ⟨db, 0, none⟩), .agg #[.string ⟨l.toArray⟩]] w fun e w' => e = .returned (.tuple #[]) ∧ ∃ a2 c2, w'.heap[db]? = some (.cells #[v2, .slice (some ⟨g, 0, none⟩) (m + 1) c1, v3] 26) ∧ w'.ownsRow B 51 2 (.slice (some ⟨g, 0, none⟩) (m + 1) c1) (m + 1) (xs.set (m * 2 + 1) (.slice a2 (rn + 1) c2)) ∧ w'.ownsRow B 67 5 (.slice a2 (rn + 1) c2) (rn + 1) (ys ++ R) ∧ Below B w w' ∧ KO (Value.slice ra rn rc).ownBlock [51, 96] w w' ∧ ((Value.slice a2 (rn + 1) c2).ownBlock = (Value.slice ra rn rc).ownBlock ∨ ∃ k, (Value.slice a2 (rn + 1) c2).ownBlock = some k ∧ w.heap.size ≤ k) := by
  have hq := (Below.refl _ w).alloc (Nat.le_refl _) (.cells #[.string ⟨l.toArray⟩] 96)
  have hrs : RsA w.heap.size l (w.alloc (.cells #[.string ⟨l.toArray⟩] 96)) := World.alloc_heap_new _ _
  have hdl : db < w.heap.size := (Array.getElem?_eq_some_iff.1 hd).1
  have hbq : Below B w (w.alloc (.cells #[.string ⟨l.toArray⟩] 96)) := hq.mono hB
  have HC := hideS (rtext_c w.heap.size l _ hrs (hX _ hbq).2.2 hl)
  rw [hw] at HC
  have HC2 : Hid (∀ v : World, RsA w.heap.size (tlW l) v → Below B w v → Calls Tryz.prog 73 #[.pointer (some ⟨w.heap.size, 0, none⟩)] v fun e w' => e = .returned (.agg R.toArray) ∧ (∃ l', RsA w.heap.size l' w') ∧ Bq w.heap.size v w') := fun v hv hb => by
    have := rera_c B w.heap.size (tlW l) v hv (fun u hu => hX u (hb.trans hu)) hB (by have := tlW_len l; omega)
    rw [hR]
    exact this
  have H0 : Hid (w.heap[db]? = some (.cells #[v2, .slice (some ⟨g, 0, none⟩) (m + 1) c1, v3] 26)) := hd
  have HO := hideS ho
  have HRr := hideS hr
  have HQ := hideS hq
  have HBQ := hideS hbq
  have HR := hideS hrs
  have HXs := hideS hx
  obtain ⟨r0, r1, r2, r3, r4, hR9⟩ : ∃ r0 r1 r2 r3 r4, R = [.int .i64 r0, .int .i64 r1, .int .i64 r2, .string r3, .int .i64 r4] := ⟨_, _, _, _, _, hR⟩
  clear hR
  subst hR9
  clear hd hX ho hw hq hbq hrs hr hx
  go_enter Tryz.func46, Tryz.ntmps46
  go_wp2_with (go_at_call 71; refine HC.out.mono ?_; rintro e v1 ⟨rfl, t1, b1⟩; refine unhid ?_)
  have R1 := hideS t1
  have B1 := hideS b1
  clear t1 b1 HC
  refine hideS ?_
  have hsz1 : w.heap.size + 1 ≤ v1.heap.size := by have := B1.out.size; simpa using this
  have D1 : Hid (v1.heap[db]? = some (.cells #[v2, .slice (some ⟨g, 0, none⟩) (m + 1) c1, v3] 26)) := (B1.out.block db (by simp; omega) (by omega)).trans (heap_on H0.out HQ.out)
  have d1 := (cells3 D1.out).2.1
  have hk0 : (m : Int) + 1 - 1 = m := by omega
  go_upto_region 13 with fail
  clear d1
  have W1 : Hid (Below B w v1) := HBQ.out.trans (B1.out.below (by omega) (by simp; omega))
  have KR1 : Hid (KT [96] w v1) := (kt_on HQ.out).trans (kt_bq B1.out HR.out (by decide))
  have O1 : Hid (v1.ownsRow B 51 2 (.slice (some ⟨g, 0, none⟩) (m + 1) c1) (m + 1) xs) := kt_own KR1.out HO.out (by decide)
  have P1 : Hid (v1.ownsRow B 67 5 (.slice ra rn rc) rn ys) := kt_own KR1.out HRr.out (by decide)
  obtain ⟨i2, hi2, hx0, hx1, hx2⟩ := info_parts infoS_era
  have j0 : decide ((m : Int) < 0) = false := by simp
  have j1 : decide (m + 1 ≤ m) = false := by simp
  have j2 : (m : Int) < (m : Int) + 1 := by omega
  have j3 : m < m + 1 := by omega
  have hS0 : Hid (∀ v : World, v.heap[db]? = some (.cells #[v2, .slice (some ⟨g, 0, none⟩) (m + 1) c1, v3] 26) → v.ownsRow B 51 2 (.slice (some ⟨g, 0, none⟩) (m + 1) c1) (m + 1) xs → v.cell? ⟨db, 1, none⟩ = some (.slice (some ⟨g, 0, none⟩) (m + 1) c1) ∧ v.cell? ⟨g, m * 2 + 1, none⟩ = some (.slice ra rn rc)) := fun v hv ho => ⟨(cells3 hv).2.1, by
    have := ho.cells (g := g) rfl _ _ HXs.out
    simpa [Addr.add] using this⟩
  refine region_last2 (S := fun v => v.cell? ⟨db, 1, none⟩ = some (.slice (some ⟨g, 0, none⟩) (m + 1) c1) ∧ v.cell? ⟨g, m * 2 + 1, none⟩ = some (.slice ra rn rc)) (by kernel_rfl) (by kernel_rfl) (hS0.out v1.drew D1.out O1.out) (fun hHeld => ?_)
  refine wpAnyH_take (i := 0) (v := ?va0) rfl (by kernel_rfl) (by kernel_rfl) (by kernel_rfl) (fun _ _ _ h => h) (Or.inl ⟨by rfl, ?ya0⟩) hHeld ?ra0
  case ya0 => intro w hSw; (try dsimp only at hSw); obtain ⟨hS1, hS2⟩ := hSw; go_simp; (try with_reducible rfl)
  try simp only [Act.put, List.setIfInBounds_toArray, List.set_cons_zero, List.set_cons_succ]
  refine wpAnyH_take (i := 1) (v := ?va1) rfl (by kernel_rfl) (by kernel_rfl) (by kernel_rfl) (fun _ _ _ h => h) (Or.inl ⟨by rfl, ?ya1⟩) hHeld ?ra1
  case ya1 => intro w hSw; (try dsimp only at hSw); obtain ⟨hS1, hS2⟩ := hSw; go_simp; (try with_reducible rfl)
  try simp only [Act.put, List.setIfInBounds_toArray, List.set_cons_zero, List.set_cons_succ]
  refine wpAnyH_take (i := 2) (v := ?va2) rfl (by kernel_rfl) (by kernel_rfl) (by kernel_rfl) (fun _ _ _ h => h) (Or.inl ⟨by rfl, ?ya2⟩) hHeld ?ra2
  case ya2 => intro w hSw; (try dsimp only at hSw); obtain ⟨hS1, hS2⟩ := hSw; go_simp; (try with_reducible rfl)
  try simp only [Act.put, List.setIfInBounds_toArray, List.set_cons_zero, List.set_cons_succ]
  refine wpAnyH_take (i := 3) (v := ?va3) rfl (by kernel_rfl) (by kernel_rfl) (by kernel_rfl) (fun _ _ _ h => h) (Or.inl ⟨by rfl, ?ya3⟩) hHeld ?ra3
  case ya3 => intro w hSw; (try dsimp only at hSw); obtain ⟨hS1, hS2⟩ := hSw; go_simp; (try with_reducible rfl)
  try simp only [Act.put, List.setIfInBounds_toArray, List.set_cons_zero, List.set_cons_succ]
  refine wpAnyH_take (i := 4) (v := ?va4) rfl (by kernel_rfl) (by kernel_rfl) (by kernel_rfl) (fun _ _ _ h => h) (Or.inl ⟨by rfl, ?ya4⟩) hHeld ?ra4
  case ya4 => intro w hSw; (try dsimp only at hSw); obtain ⟨hS1, hS2⟩ := hSw; go_simp; (try with_reducible rfl)
  try simp only [Act.put, List.setIfInBounds_toArray, List.set_cons_zero, List.set_cons_succ]
  refine wpAnyH_take (i := 5) (v := ?va5) rfl (by kernel_rfl) (by kernel_rfl) (by kernel_rfl) (fun _ _ _ h => h) (Or.inl ⟨by rfl, ?ya5⟩) hHeld ?ra5
  case ya5 => intro w hSw; (try dsimp only at hSw); obtain ⟨hS1, hS2⟩ := hSw; go_simp; (try with_reducible rfl)
  try simp only [Act.put, List.setIfInBounds_toArray, List.set_cons_zero, List.set_cons_succ]
  refine wpAnyH_take (i := 6) (v := ?va6) rfl (by kernel_rfl) (by kernel_rfl) (by kernel_rfl) (fun _ _ _ h => h) (Or.inl ⟨by rfl, ?ya6⟩) hHeld ?ra6
  case ya6 => intro w hSw; (try dsimp only at hSw); obtain ⟨hS1, hS2⟩ := hSw; go_simp; (try with_reducible rfl)
  try simp only [Act.put, List.setIfInBounds_toArray, List.set_cons_zero, List.set_cons_succ]
  refine wpAnyH_take (i := 7) (v := ?va7) rfl (by kernel_rfl) (by kernel_rfl) (by kernel_rfl) (fun _ _ _ h => h) (Or.inl ⟨by rfl, ?ya7⟩) hHeld ?ra7
  case ya7 => intro w hSw; (try dsimp only at hSw); obtain ⟨hS1, hS2⟩ := hSw; go_simp; (try with_reducible rfl)
  try simp only [Act.put, List.setIfInBounds_toArray, List.set_cons_zero, List.set_cons_succ]
  refine wpAnyH_take (i := 8) (v := ?va8) rfl (by kernel_rfl) (by kernel_rfl) (by kernel_rfl) (fun _ _ _ h => h) (Or.inl ⟨by rfl, ?ya8⟩) hHeld ?ra8
  case ya8 => intro w hSw; (try dsimp only at hSw); obtain ⟨hS1, hS2⟩ := hSw; go_simp; (try with_reducible rfl)
  try simp only [Act.put, List.setIfInBounds_toArray, List.set_cons_zero, List.set_cons_succ]
  refine wpAnyH_take (i := 9) (v := ?va9) rfl (by kernel_rfl) (by kernel_rfl) (by kernel_rfl) (fun _ _ _ h => h) (Or.inl ⟨by rfl, ?ya9⟩) hHeld ?ra9
  case ya9 => intro w hSw; (try dsimp only at hSw); obtain ⟨hS1, hS2⟩ := hSw; go_simp; (try with_reducible rfl)
  try simp only [Act.put, List.setIfInBounds_toArray, List.set_cons_zero, List.set_cons_succ]
  refine wpAnyH_take (i := 10) (v := ?va10) rfl (by kernel_rfl) (by kernel_rfl) (by kernel_rfl) (fun _ _ _ h => h) (Or.inl ⟨by rfl, ?ya10⟩) hHeld ?ra10
  case ya10 => intro w hSw; (try dsimp only at hSw); obtain ⟨hS1, hS2⟩ := hSw; go_simp; (try with_reducible rfl)
  try simp only [Act.put, List.setIfInBounds_toArray, List.set_cons_zero, List.set_cons_succ]
  refine wpAnyH_take (i := 11) (v := ?va11) rfl (by kernel_rfl) (by kernel_rfl) (by kernel_rfl) (fun _ _ _ h => h) (Or.inl ⟨by rfl, ?ya11⟩) hHeld ?ra11
  case ya11 => intro w hSw; (try dsimp only at hSw); obtain ⟨hS1, hS2⟩ := hSw; go_simp; (try with_reducible rfl)
  try simp only [Act.put, List.setIfInBounds_toArray, List.set_cons_zero, List.set_cons_succ]
  refine wpAnyH_take (i := 12) (v := ?va12) rfl (by kernel_rfl) (by kernel_rfl) (by kernel_rfl) (fun _ _ _ h => h) (Or.inl ⟨by rfl, ?ya12⟩) hHeld ?ra12
  case ya12 => intro w hSw; (try dsimp only at hSw); obtain ⟨hS1, hS2⟩ := hSw; go_simp; (try with_reducible rfl)
  try simp only [Act.put, List.setIfInBounds_toArray, List.set_cons_zero, List.set_cons_succ]
  refine wpAnyH_ready (rs := [13]) (by kernel_rfl) (by simp) ?_
  refine AllReadyH.cons (i := 13) rfl (fun K hK => ?_) AllReadyH.nil
  go_simp
  refine (HC2.out _ (by exact R1.out) (by exact W1.out.drew)).mono ?_
  rintro e u2 ⟨rfl, ⟨l2, t2⟩, b2⟩
  have D2 : Hid (u2.heap[db]? = some (.cells #[v2, .slice (some ⟨g, 0, none⟩) (m + 1) c1, v3] 26)) := (b2.block db (by simp; omega) (by omega)).trans D1.out
  have W2 : Hid (Below B w u2) := W1.out.drew.trans (b2.below (by omega) (by simp; omega))
  have KR2 : Hid (KT [96] v1.drew u2) := kt_bq b2 R1.out (by decide)
  have O2 : Hid (u2.ownsRow B 51 2 (.slice (some ⟨g, 0, none⟩) (m + 1) c1) (m + 1) xs) := kt_own KR2.out (show v1.drew.ownsRow B 51 2 (.slice (some ⟨g, 0, none⟩) (m + 1) c1) (m + 1) xs from O1.out) (by decide)
  have P2 : Hid (u2.ownsRow B 67 5 (.slice ra rn rc) rn ys) := kt_own KR2.out (show v1.drew.ownsRow B 67 5 (.slice ra rn rc) rn ys from P1.out) (by decide)
  clear t2 b2
  refine hK.out _ _ ?s13 (fun hHeld => ?_)
  case s13 => exact hS0.out _ D2.out O2.out
  clear hK K
  try simp only [Act.put, List.setIfInBounds_toArray, List.set_cons_zero, List.set_cons_succ]
  refine wpAnyH_ready (rs := [14]) (by kernel_rfl) (by simp) ?_
  refine AllReadyH.cons (i := 14) rfl (fun K hK => ?_) AllReadyH.nil
  go_simp
  have ba := (Below.refl _ u2).alloc (Nat.le_refl _) (.cells #[.int .i64 r0, .int .i64 r1, .int .i64 r2, .string r3, .int .i64 r4] 67)
  have D3 := hideS (heap_on D2.out ba)
  have W3 : Hid (Below B w (u2.alloc (.cells #[.int .i64 r0, .int .i64 r1, .int .i64 r2, .string r3, .int .i64 r4] 67))) := W2.out.trans (ba.mono (by have := W2.out.size; omega))
  have O3 := hideS (own_on O2.out ba)
  have P3 := hideS (own_on P2.out ba)
  have K3 : Hid (KO (Value.slice ra rn rc).ownBlock [51, 96] w (u2.alloc (.cells #[.int .i64 r0, .int .i64 r1, .int .i64 r2, .string r3, .int .i64 r4] 67))) := ko_kt (kt_more (KT.trans (b := u2) (KT.trans (b := v1.drew) KR1.out KR2.out) (kt_on ba)) (fun t ht => List.mem_cons_of_mem _ ht))
  clear ba
  refine hK.out _ _ ?s14 (fun hHeld => ?_)
  case s14 => exact hS0.out _ D3.out O3.out
  clear hK K
  try simp only [Act.put, List.setIfInBounds_toArray, List.set_cons_zero, List.set_cons_succ]
  refine wpAnyH_ready (rs := [15]) (by kernel_rfl) (by simp) ?_
  refine AllReadyH.cons (i := 15) rfl (fun K hK => ?_) AllReadyH.nil
  refine step_append_row _ rfl _ _ 49 rfl B 67 i2 _ 5 48 Tryz.underlying49 hi2 hx0 hx1 hx2 rfl (by decide) _ rn ys rfl P3.out _ 1 1 [.int .i64 r0, .int .i64 r1, .int .i64 r2, .string r3, .int .i64 r4] rfl rfl (.inr ⟨_, rfl, World.news_of_block (World.alloc_heap_new u2 _)⟩) (by intro u hu; simp at hu; rcases hu with rfl | rfl | rfl | rfl | rfl <;> rfl) (by unfold maxLen; omega) (by omega) (by have := W2.out.size; simp; omega) ?_
  intro vr u4 O4 G4 hat
  obtain ⟨a2, c2, rfl⟩ := ownS_sl O4
  have K4 : Hid (KO (Value.slice ra rn rc).ownBlock [51, 96] w u4) := K3.out.trans (ko_grown G4)
  have KB := hideS (keptB_grown P3.out G4)
  have D4 : Hid (u4.heap[db]? = some (.cells #[v2, .slice (some ⟨g, 0, none⟩) (m + 1) c1, v3] 26)) := KB.out _ _ _ _ D3.out (by decide)
  have S4 : Hid (u4.ownsRow B 51 2 (.slice (some ⟨g, 0, none⟩) (m + 1) c1) (m + 1) xs) := keptB_own KB.out O3.out (by decide)
  have W4 : Hid (Below B w u4) := W3.out.grown G4 (by have := W2.out.size; simp; omega) fun k hk => (P3.out.lt k hk).1
  have HAT : Hid ((Value.slice a2 (rn + 1) c2).ownBlock = (Value.slice ra rn rc).ownBlock ∨ ∃ k, (Value.slice a2 (rn + 1) c2).ownBlock = some k ∧ w.heap.size ≤ k) := hat.imp id fun h => ⟨_, h, by have := W2.out.size; simp; omega⟩
  have P4 := hideS O4
  clear O4 G4
  refine hK.out _ _ ?s15 (fun hHeld => ?_)
  case s15 => exact hS0.out _ D4.out S4.out
  clear hK K
  try simp only [Act.put, List.setIfInBounds_toArray, List.set_cons_zero, List.set_cons_succ]
  refine wpAnyH_take (i := 16) (v := ?va16) rfl (by kernel_rfl) (by kernel_rfl) (by kernel_rfl) (fun _ _ _ h => h) (Or.inl ⟨by rfl, ?ya16⟩) hHeld ?ra16
  case ya16 => intro w hSw; (try dsimp only at hSw); obtain ⟨hS1, hS2⟩ := hSw; go_simp; (try with_reducible rfl)
  try simp only [Act.put, List.setIfInBounds_toArray, List.set_cons_zero, List.set_cons_succ]
  refine wpAnyH_take (i := 17) (v := ?va17) rfl (by kernel_rfl) (by kernel_rfl) (by kernel_rfl) (fun _ _ _ h => h) (Or.inl ⟨by rfl, ?ya17⟩) hHeld ?ra17
  case ya17 => intro w hSw; (try dsimp only at hSw); obtain ⟨hS1, hS2⟩ := hSw; go_simp; (try with_reducible rfl)
  try simp only [Act.put, List.setIfInBounds_toArray, List.set_cons_zero, List.set_cons_succ]
  refine wpAnyH_done (by kernel_rfl) ?_ _
  obtain ⟨ow0, ow⟩ := hS0.out u4 D4.out S4.out
  obtain ⟨cur, hcur, hBg⟩ := own_block S4.out
  have of : u4.frozen? ⟨g, m * 2 + 1, none⟩ = false := Lib.frozen_of_heap hcur _
  refine qlast_n ?_
  refine wpOp_step rfl (fun K hK => ?_)
  go_simp
  refine hK _ _ ?_
  clear hK K
  go_wp2_with fail
  go_end0
  have KD : KT [51] u4 (u4.setCell ⟨g, m * 2 + 1, none⟩ (.slice a2 (rn + 1) c2)) := kt_set hcur (by decide) _ _
  exact ⟨rfl, a2, c2, KD _ _ _ _ D4.out (by decide), own_put S4.out _, kt_own KD P4.out (by decide), W4.out.setCell (p := ⟨g, m * 2 + 1, none⟩) hBg _, K4.out.trans (ko_kt (kt_set hcur (by decide) _ _)), HAT.out⟩
end Go.Proofs.YtbpdbggojgijiaaGreatDoor.Src

/- A line is taken: what adds nothing. -/
namespace Go.Proofs.YtbpdbggojgijiaaGreatDoor.Src
open Go Go.RowKit Go.Maps
set_option linter.unusedVariables false
set_option linter.unusedSimpArgs false

set_option maxHeartbeats 4000000 in
set_option maxRecDepth 100000 in
theorem take_none_c (B db : Nat) (l : By) (w : World) (hB : B ≤ w.heap.size) (hX : ∀ v : World, Below B w v → EVs v) (hl : l.length < 4294967281)
    (k1 : hdW l ≠ wSet) (k2 : hdW l ≠ wRule) (k3 : hdW l ≠ wZone) (k4 : hdW l ≠ wEra) (k5 : hdW l ≠ wLink) :
    Calls Tryz.prog 46 #[.pointer (some ⟨db, 0, none⟩), .agg #[.string ⟨l.toArray⟩]] w fun e w' => e = .returned (.tuple #[]) ∧ Below B w w' ∧ KT [96] w w' := by
  have hq := (Below.refl _ w).alloc (Nat.le_refl _) (.cells #[.string ⟨l.toArray⟩] 96)
  have hrs : RsA w.heap.size l (w.alloc (.cells #[.string ⟨l.toArray⟩] 96)) := World.alloc_heap_new _ _
  have hbq : Below B w (w.alloc (.cells #[.string ⟨l.toArray⟩] 96)) := hq.mono hB
  have HC := hideS (rtext_c w.heap.size l _ hrs (hX _ hbq).2.2 hl)
  obtain ⟨H, hH⟩ : ∃ H, H = hdW l := ⟨_, rfl⟩
  rw [← hH] at HC k1 k2 k3 k4 k5
  have HQ := hideS hq
  have HBQ := hideS hbq
  have HR := hideS hrs
  have e1 : (H == wSet) = false := beq_eq_false_iff_ne.2 k1
  have e2 : (H == wRule) = false := beq_eq_false_iff_ne.2 k2
  have e3 : (H == wZone) = false := beq_eq_false_iff_ne.2 k3
  have e4 : (H == wEra) = false := beq_eq_false_iff_ne.2 k4
  have e5 : (H == wLink) = false := beq_eq_false_iff_ne.2 k5
  clear hX hq hbq hrs k1 k2 k3 k4 k5 hH
  go_enter Tryz.func46, Tryz.ntmps46
  go_wp2_with (go_at_call 71; refine HC.out.mono ?_; rintro e v1 ⟨rfl, t1, b1⟩)
  go_end0
  exact ⟨rfl, HBQ.out.trans (b1.below hB (by simp; omega)), (kt_on HQ.out).trans (kt_bq b1 HR.out (by decide))⟩
set_option maxHeartbeats 4000000 in
set_option maxRecDepth 100000 in
theorem take_rule0_c (B db : Nat) (l : By) (w : World) (s1 : Option Addr) (c1 : Nat) (v2 v3 : Value) (hd : w.heap[db]? = some (.cells #[.slice s1 0 c1, v2, v3] 26)) (hB : B ≤ w.heap.size) (hX : ∀ v : World, Below B w v → EVs v) (hl : l.length < 4294967281) (hw : hdW l = wRule) :
    Calls Tryz.prog 46 #[.pointer (some ⟨db, 0, none⟩), .agg #[.string ⟨l.toArray⟩]] w fun e w' => e = .returned (.tuple #[]) ∧ Below B w w' ∧ KT [96] w w' := by
  have hq := (Below.refl _ w).alloc (Nat.le_refl _) (.cells #[.string ⟨l.toArray⟩] 96)
  have hrs : RsA w.heap.size l (w.alloc (.cells #[.string ⟨l.toArray⟩] 96)) := World.alloc_heap_new _ _
  have hdl : db < w.heap.size := (Array.getElem?_eq_some_iff.1 hd).1
  have hbq : Below B w (w.alloc (.cells #[.string ⟨l.toArray⟩] 96)) := hq.mono hB
  have HC := hideS (rtext_c w.heap.size l _ hrs (hX _ hbq).2.2 hl)
  rw [hw] at HC
  have HD := hideS (heap_on hd hq)
  have HQ := hideS hq
  have HBQ := hideS hbq
  have HR := hideS hrs
  clear hX hq hbq hrs hd hw
  go_enter Tryz.func46, Tryz.ntmps46
  go_wp2_with (go_at_call 71; refine HC.out.mono ?_; rintro e v1 ⟨rfl, t1, b1⟩; have d1 := (cells3 ((b1.block db (by simp; omega) (by omega)).trans HD.out)).1)
  go_end0
  exact ⟨rfl, HBQ.out.trans (b1.below hB (by simp; omega)), (kt_on HQ.out).trans (kt_bq b1 HR.out (by decide))⟩
set_option maxHeartbeats 4000000 in
set_option maxRecDepth 100000 in
theorem take_era0_c (B db : Nat) (l : By) (w : World) (s1 : Option Addr) (c1 : Nat) (v1 v3 : Value) (hd : w.heap[db]? = some (.cells #[v1, .slice s1 0 c1, v3] 26)) (hB : B ≤ w.heap.size) (hX : ∀ v : World, Below B w v → EVs v) (hl : l.length < 4294967281) (hw : hdW l = wEra) :
    Calls Tryz.prog 46 #[.pointer (some ⟨db, 0, none⟩), .agg #[.string ⟨l.toArray⟩]] w fun e w' => e = .returned (.tuple #[]) ∧ Below B w w' ∧ KT [96] w w' := by
  have hq := (Below.refl _ w).alloc (Nat.le_refl _) (.cells #[.string ⟨l.toArray⟩] 96)
  have hrs : RsA w.heap.size l (w.alloc (.cells #[.string ⟨l.toArray⟩] 96)) := World.alloc_heap_new _ _
  have hdl : db < w.heap.size := (Array.getElem?_eq_some_iff.1 hd).1
  have hbq : Below B w (w.alloc (.cells #[.string ⟨l.toArray⟩] 96)) := hq.mono hB
  have HC := hideS (rtext_c w.heap.size l _ hrs (hX _ hbq).2.2 hl)
  rw [hw] at HC
  have HD := hideS (heap_on hd hq)
  have HQ := hideS hq
  have HBQ := hideS hbq
  have HR := hideS hrs
  clear hX hq hbq hrs hd hw
  go_enter Tryz.func46, Tryz.ntmps46
  go_wp2_with (go_at_call 71; refine HC.out.mono ?_; rintro e v1 ⟨rfl, t1, b1⟩; have d1 := (cells3 ((b1.block db (by simp; omega) (by omega)).trans HD.out)).2.1)
  go_end0
  exact ⟨rfl, HBQ.out.trans (b1.below hB (by simp; omega)), (kt_on HQ.out).trans (kt_bq b1 HR.out (by decide))⟩
end Go.Proofs.YtbpdbggojgijiaaGreatDoor.Src

/- Plain: what strings.Split tells of a text are its lines. -/
namespace Go.Proofs.YtbpdbggojgijiaaGreatDoor.Src
open Go Go.RowKit
set_option linter.unusedVariables false

theorem splitK_cut : ∀ (k : Nat) (l : By), l.count 10 = k → Lib.splitK [10] 0 k l = cutB 10 l
  | 0, l, h => by
    rw [cutB_none (List.count_eq_zero.1 h)]
    rfl
  | k + 1, l, h => by
    have hm : (10 : UInt8) ∈ l := List.count_pos_iff.1 (by omega)
    have hge := Lib.indexByte_ge l 10
    have hne : Lib.indexByte l 10 ≠ -1 := fun e => by
      obtain ⟨j, hj⟩ := List.mem_iff_getElem?.1 hm
      exact Lib.indexByte_none e j hj
    obtain ⟨o, ho⟩ : ∃ o : Nat, Lib.indexByte l 10 = o := ⟨(Lib.indexByte l 10).toNat, by omega⟩
    have hi : Lib.index l [10] = o := by rw [Lib.index_one]; exact ho
    obtain ⟨h1, h2⟩ := Lib.indexByte_some ho
    have hol := (List.getElem?_eq_some_iff.1 h1).1
    have hsp : l = l.take o ++ 10 :: l.drop (o + 1) := by
      have e := List.drop_eq_getElem_cons hol
      have e2 : l[o] = 10 := (List.getElem?_eq_some_iff.1 h1).2
      rw [e2] at e
      rw [← e, List.take_append_drop]
    have hc : (l.take o).count 10 = 0 := List.count_eq_zero.2 fun hmem => by
      obtain ⟨j, hj⟩ := List.mem_iff_getElem?.1 hmem
      have hjo : j < o := by
        have := (List.getElem?_eq_some_iff.1 hj).1
        rw [List.length_take] at this
        omega
      rw [List.getElem?_take, if_pos hjo] at hj
      exact h2 j hjo hj
    have hk : (l.drop (o + 1)).count 10 = k := by
      have := congrArg (List.count 10) hsp
      rw [List.count_append, hc, List.count_cons_self, h] at this
      omega
    unfold Lib.splitK
    rw [if_neg (by rw [hi, beq_iff_eq]; omega), hi, cutB_first ho]
    show l.take ((o : Int).toNat + 0) :: Lib.splitK [10] 0 k (l.drop ((o : Int).toNat + 1)) = _
    rw [show (o : Int).toNat = o from rfl, Nat.add_zero, splitK_cut k _ hk]
theorem splitB_cut (s : By) : Lib.splitB ⟨#[10]⟩ 0 (Lib.countB ⟨s.toArray⟩ ⟨#[10]⟩) ⟨s.toArray⟩ = (cutB 10 s).map fun l => (⟨l.toArray⟩ : ByteArray) := by
  have h := Lib.splitB_data ⟨#[10]⟩ 0 (Lib.countB ⟨s.toArray⟩ ⟨#[10]⟩) ⟨s.toArray⟩
  have e : Lib.countB ⟨s.toArray⟩ ⟨#[10]⟩ = s.count 10 := (Lib.count_one 10 s)
  have h2 : (Lib.splitB ⟨#[10]⟩ 0 (Lib.countB ⟨s.toArray⟩ ⟨#[10]⟩) ⟨s.toArray⟩).map (·.data.toList) = cutB 10 s := by
    rw [h, e]
    exact splitK_cut _ s rfl
  rw [← h2, List.map_map]
  refine ((List.map_congr_left fun x _ => ?_).trans (List.map_id _)).symm
  rfl
theorem split10_c (s : By) (w : World) (hM : Mx w) (hs : s.length < 4294967281) : Calls Tryz.prog 45 #[.string ⟨s.toArray⟩, .string ⟨#[10]⟩] w fun e w' => e = .returned (.slice (some ⟨w.heap.size, 0, none⟩) (cutB 10 s).length (cutB 10 s).length) ∧ w' = w.alloc (.cells ((cutB 10 s).map fun l => Value.string ⟨l.toArray⟩).toArray 9) := by
  obtain ⟨m, hm⟩ := hM
  have hl := Lib.splitB_all ⟨#[10]⟩ (by decide) 0 _ (⟨s.toArray⟩ : ByteArray) rfl
  have hb := splitB_cut s
  refine (Any.strings_Split { Tryz.laysM146 with } (by kernel_rfl) ⟨s.toArray⟩ ⟨#[10]⟩ m w (by show s.toArray.size < _; simpa using hs) hm (by decide)).mono ?_
  rintro e w' ⟨rfl, rfl⟩
  rw [← hl, hb, List.map_map, List.length_map]
  exact ⟨rfl, rfl⟩
end Go.Proofs.YtbpdbggojgijiaaGreatDoor.Src
