/- A region that draws its order, whose last operation waits for all others: the region without it, and then that one. -/
import Derived.Deep.RegionHeldLaw
import Derived.WalkKit
namespace Go.Proofs.YtbpdbggojgijiaaGreatDoor
open Go Go.RowKit
set_option linter.unusedVariables false

variable {P : Program}
theorem upon_q {o : Oper} {a : Act} {K : Act → World → Prop} {Q1 Q2 : Exit → Act → World → Prop} (hq : ∀ ex a w, ex ≠ .normal → Q1 ex a w → Q2 ex a w) : ∀ r, o.upon P a K Q1 r → o.upon P a K Q2 r := by
  intro r h
  have hl : LetsOut Q1 → LetsOut Q2 := fun ⟨a, w, h⟩ => ⟨a, w, hq _ _ _ (by intro e; cases e) h⟩
  cases r with
  | ok n w' =>
    cases n <;> simp only [Oper.upon] at h ⊢ <;>
      first
        | exact h
        | exact Calls.mono h (fun e w'' he => by cases e <;> first | exact he | exact hq _ _ _ (by intro e; cases e) he | exact hl he)
  | halt x w' => cases x <;> simp only [Oper.upon] at h ⊢ <;> first | exact h | exact hq _ _ _ (by intro e; cases e) h
/-- what is left behind the others -/
def Qlast (P : Program) (ops : Array Oper) (Q : Exit → Act → World → Prop) (n : Nat) : Exit → Act → World → Prop
  | .normal, a, w => wpOp P ops Q n (fun a' w' => Q .normal a' w') a w
  | x, a, w => Q x a w
theorem qlast_n {ops : Array Oper} {Q : Exit → Act → World → Prop} {n : Nat} {a : Act} {w : World} (h : wpOp P ops Q n (fun a' w' => Q .normal a' w') a w) : Qlast P ops Q n .normal a w := h
theorem qlast_q {ops : Array Oper} {Q : Exit → Act → World → Prop} {n : Nat} : ∀ ex a w, ex ≠ .normal → Qlast P ops Q n ex a w → Q ex a w := by
  intro ex a w h
  cases ex <;> first | exact absurd rfl h | exact id
variable {ops : Array Oper} {o : Oper} {Q : Exit → Act → World → Prop} {md : Region.Mode}
theorem wpOp_q {i : Nat} (hi : i < ops.size) (hg : ∀ (j : Nat) (oj : Oper), ops[j]? = some oj → oj.guard = none) {K K' : Act → World → Prop} (hK : ∀ a w, K a w → K' a w) {a : Act} {w : World} (h : wpOp P ops (Qlast P (ops.push o) Q ops.size) i K a w) : wpOp P (ops.push o) Q i K' a w := by
  have e1 : (ops.push o)[i]? = ops[i]? := by rw [Array.getElem?_push, if_neg (by omega)]
  have e2 := Array.getElem?_eq_getElem hi
  have hw : ∀ y, Region.wanted ops[i] y = true := fun y => by simp [Region.wanted, hg i _ e2]
  unfold wpOp at h ⊢
  rw [e1, e2]
  rw [e2] at h
  simp only [hw, if_true] at h ⊢
  rcases h with h | ⟨h1, a', w', h2⟩
  · exact .inl (Oper.wp_mono hK (upon_q qlast_q _ h))
  · exact .inr ⟨h1, a', w', qlast_q _ _ _ (by intro e; cases e) h2⟩
theorem getD_push_lt {l : Array Bool} {b d : Bool} {i : Nat} (h : i < l.size) : (l.push b).getD i d = l.getD i d := by
  simp [Array.getD, h, Nat.lt_succ_of_lt h, Array.getElem_push_lt h]
theorem getD_push_eq {l : Array Bool} {b d : Bool} : (l.push b).getD l.size d = b := by simp [Array.getD]
theorem push_set {l : Array Bool} {i : Nat} {b c : Bool} (h : i < l.size) : (l.push b).setIfInBounds i c = (l.setIfInBounds i c).push b := by
  apply Array.ext_getElem?
  intro j
  rw [Array.getElem?_setIfInBounds, Array.getElem?_push, Array.getElem?_push, Array.getElem?_setIfInBounds, Array.size_setIfInBounds]
  by_cases e : i = j
  · subst e
    rw [if_pos rfl, if_pos (by simp; omega), if_neg (by omega), if_pos rfl, if_pos h]
  · rw [if_neg e, if_neg e]
theorem ready_lt {listed : Array Bool} (hs : listed.size = ops.size) (hord : ∀ (i : Nat) (oi : Oper), ops[i]? = some oi → ∀ e ∈ oi.after, e.on < ops.size) {i : Nat} (hi : i < ops.size) : i ∈ Region.ready md (ops.push o) (listed.push false) ↔ i ∈ Region.ready md ops listed := by
  rw [mem_ready, mem_ready, getD_push_lt (by omega)]
  have e1 : (ops.push o)[i]? = ops[i]? := by rw [Array.getElem?_push, if_neg (by omega)]
  rw [e1]
  constructor
  · rintro ⟨h1, oi, h2, h3⟩
    exact ⟨h1, oi, h2, fun e he hb => by have := h3 e he hb; rwa [getD_push_lt (by rw [hs]; exact hord i oi h2 e he)] at this⟩
  · rintro ⟨h1, oi, h2, h3⟩
    exact ⟨h1, oi, h2, fun e he hb => by rw [getD_push_lt (by rw [hs]; exact hord i oi h2 e he)]; exact h3 e he hb⟩
/-- the least one that has not come up may come up -/
theorem ready_none {listed : Array Bool} (hs : listed.size = ops.size) (hord : ∀ (i : Nat) (oi : Oper), ops[i]? = some oi → ∀ e ∈ oi.after, e.on < i) (h : Region.ready md ops listed = []) : ∀ i, i < ops.size → listed.getD i true = true ∧ listed.getD i false = true := by
  intro i
  induction i using Nat.strongRecOn with
  | ind i ih =>
    intro hi
    have e2 := Array.getElem?_eq_getElem hi
    have e3 : ∀ d, listed.getD i d = listed[i]'(by omega) := fun d => by simp [Array.getD, hs, hi]
    cases hb : listed[i]'(by omega) with
    | true => exact ⟨by rw [e3, hb], by rw [e3, hb]⟩
    | false =>
      exfalso
      have : i ∈ Region.ready md ops listed := mem_ready.2 ⟨by rw [e3, hb], _, e2, fun e he _ => (ih e.on (hord i _ e2 e he) (by have := hord i _ e2 e he; omega)).2⟩
      rw [h] at this
      cases this
theorem ready_all {listed : Array Bool} (h : ∀ i, i < ops.size → listed.getD i true = true) : Region.ready md ops listed = [] := by
  apply List.eq_nil_iff_forall_not_mem.2
  intro i hi
  obtain ⟨h1, oi, h2, _⟩ := mem_ready.1 hi
  have := h i (Array.getElem?_eq_some_iff.1 h2).1
  rw [h1] at this
  cases this
theorem any_last (hg : ∀ (j : Nat) (oj : Oper), ops[j]? = some oj → oj.guard = none) (hord : ∀ (i : Nat) (oi : Oper), ops[i]? = some oi → ∀ e ∈ oi.after, e.on < i) (hall : ∀ i, i < ops.size → ∃ e ∈ o.after, e.on = i ∧ Region.binds md e = true) (hin : ∀ e ∈ o.after, e.on < ops.size) :
    ∀ (fuel : Nat) (listed : Array Bool) (a : Act) (w : World), listed.size = ops.size → wpAny P md ops (Qlast P (ops.push o) Q ops.size) fuel listed a w → wpAny P md (ops.push o) Q (fuel + 1) (listed.push false) a w := by
  have hord' : ∀ (i : Nat) (oi : Oper), ops[i]? = some oi → ∀ e ∈ oi.after, e.on < ops.size := fun i oi h e he => Nat.lt_trans (hord i oi h e he) (Array.getElem?_eq_some_iff.1 h).1
  have hlast : ∀ listed : Array Bool, listed.size = ops.size → (ops.size ∈ Region.ready md (ops.push o) (listed.push false) ↔ ∀ i, i < ops.size → listed.getD i false = true) := fun listed hs => by
    rw [mem_ready, ← hs, getD_push_eq, hs]
    constructor
    · rintro ⟨_, oi, h2, h3⟩ i hi
      obtain rfl : o = oi := by simpa using h2
      obtain ⟨e, he, rfl, hb⟩ := hall i hi
      have := h3 e he hb
      rwa [getD_push_lt (by omega)] at this
    · intro h
      exact ⟨rfl, o, by simp, fun e he _ => by rw [getD_push_lt (by have := hin e he; omega)]; exact h _ (hin e he)⟩
  have hfin : ∀ listed : Array Bool, listed.size = ops.size → (∀ i, i < ops.size → listed.getD i false = true) → Region.ready md (ops.push o) ((listed.push false).setIfInBounds ops.size true) = [] := fun listed hs h => by
    refine ready_all fun i hi => ?_
    simp at hi
    by_cases e : i = ops.size
    · subst e
      simp [Array.getD, hs]
    · have hi2 : i < ops.size := by omega
      have h1 := h i hi2
      have e3 : listed.getD i false = listed[i]'(by omega) := by simp [Array.getD, hs, hi2]
      rw [e3] at h1
      have : ((listed.push false).setIfInBounds ops.size true).getD i true = listed[i]'(by omega) := by
        rw [getD_set_ne true (Ne.symm e), getD_push_lt (by omega)]
        simp [Array.getD, hs, hi2]
      rw [this, h1]
  intro fuel
  induction fuel with
  | zero =>
    intro listed a w hs H
    have hall2 := fun i hi => (ready_none hs hord H.1 i hi).2
    have hm := (hlast listed hs).2 hall2
    refine ⟨fun h => (by rw [h] at hm; cases hm), fun i hi => ?_⟩
    have hin2 : i < ops.size + 1 := by
      obtain ⟨_, oi, h2, _⟩ := mem_ready.1 hi
      have := (Array.getElem?_eq_some_iff.1 h2).1
      simpa using this
    by_cases e : i = ops.size
    · subst e
      exact wpOp_mono (fun a' w' h => ⟨hfin listed hs hall2, h⟩) H.2
    · have := (ready_lt (o := o) hs hord' (by omega)).1 hi
      rw [H.1] at this
      cases this
  | succ fuel ih =>
    intro listed a w hs H
    refine ⟨fun h => ?_, fun i hi => ?_⟩
    · exfalso
      have hr : Region.ready md ops listed = [] := by
        apply List.eq_nil_iff_forall_not_mem.2
        intro i hi
        have hil : i < ops.size := by
          obtain ⟨_, oi, h2, _⟩ := mem_ready.1 hi
          exact (Array.getElem?_eq_some_iff.1 h2).1
        have := (ready_lt (o := o) hs hord' hil).2 hi
        rw [h] at this
        cases this
      have hm := (hlast listed hs).2 (fun i hi => (ready_none hs hord hr i hi).2)
      rw [h] at hm
      cases hm
    · have hin2 : i < ops.size + 1 := by
        obtain ⟨_, oi, h2, _⟩ := mem_ready.1 hi
        have := (Array.getElem?_eq_some_iff.1 h2).1
        simpa using this
      by_cases e : i = ops.size
      · subst e
        have hall2 := (hlast listed hs).1 hi
        have hr : Region.ready md ops listed = [] := ready_all fun i hi => by
          have h1 := hall2 i hi
          have e3 : ∀ d, listed.getD i d = listed[i]'(by omega) := fun d => by simp [Array.getD, hs, hi]
          rw [e3] at h1 ⊢
          exact h1
        refine wpOp_mono (fun a' w' h => ⟨fun _ => h, fun j hj => ?_⟩) (H.1 hr)
        rw [hfin listed hs hall2] at hj
        cases hj
      · have hil : i < ops.size := by omega
        have h1 := H.2 i ((ready_lt (o := o) hs hord' hil).1 hi)
        refine wpOp_q hil hg (fun a' w' h => ?_) h1
        have := ih (listed.setIfInBounds i true) a' w' (by simpa using hs) h
        rw [push_set (by omega)]
        exact this
/-- the same as a question that the kernel answers -/
def lastOK (ops : Array Oper) : Bool :=
  match ops.back? with
  | none => false
  | some o => (List.range ops.pop.size).all (fun i => match ops.pop[i]? with | some oi => oi.guard.isNone && oi.after.all (fun e => decide (e.on < i)) | none => true) && (List.range ops.pop.size).all (fun i => o.after.any fun e => e.on == i && Region.binds .any e) && o.after.all fun e => decide (e.on < ops.pop.size)
theorem region_last {ops : Array Oper} {id : Nat} {a : Act} {w : World} {S : World → Prop} (hm : P.follows .mixedOrders = true) (hok : lastOK ops = true) (hS : S w.drew)
    (h : S w.drew → wpAnyH P .any ops.pop (Qlast P ops Q ops.pop.size) S ops.pop.size (Array.replicate ops.pop.size false) a w.drew) : (Code.region id ops true).wp P Q a w := by
  unfold lastOK at hok
  cases hb : ops.back? with
  | none => rw [hb] at hok; cases hok
  | some o =>
    rw [hb] at hok
    simp only [Bool.and_eq_true, List.all_eq_true, List.mem_range, Array.all_eq_true_iff_forall_mem, Array.any_eq_true, decide_eq_true_eq] at hok
    obtain ⟨⟨h1, h2⟩, h3⟩ := hok
    have hp : ops = ops.pop.push o := by
      have hs : 0 < ops.size := by
        rcases Nat.eq_zero_or_pos ops.size with e | e
        · rw [Array.back?_eq_getElem?, Array.getElem?_eq_none (by omega)] at hb
          cases hb
        · exact e
      rw [Array.back?_eq_getElem?] at hb
      apply Array.ext_getElem?
      intro i
      rw [Array.getElem?_push, Array.getElem?_pop, Array.size_pop]
      by_cases e : i = ops.size - 1
      · rw [if_pos e, e, hb]
      · rw [if_neg e]
        by_cases h : i < ops.size - 1
        · rw [if_pos h]
        · rw [if_neg h, Array.getElem?_eq_none (by omega)]
    have hsz : ops.size = ops.pop.size + 1 := by rw [hp]; simp
    have hg : ∀ (j : Nat) (oj : Oper), ops.pop[j]? = some oj → oj.guard = none := fun j oj hj => by
      have := h1 j (Array.getElem?_eq_some_iff.1 hj).1
      rw [hj] at this
      simp only [Bool.and_eq_true] at this
      exact Option.isNone_iff_eq_none.1 this.1
    have hord : ∀ (i : Nat) (oi : Oper), ops.pop[i]? = some oi → ∀ e ∈ oi.after, e.on < i := fun i oi hi e he => by
      have := h1 i (Array.getElem?_eq_some_iff.1 hi).1
      rw [hi] at this
      simp only [Bool.and_eq_true, Array.all_eq_true_iff_forall_mem, decide_eq_true_eq] at this
      exact this.2 e he
    have hall : ∀ i, i < ops.pop.size → ∃ e ∈ o.after, e.on = i ∧ Region.binds .any e = true := fun i hi => by
      obtain ⟨k, hk, he⟩ := h2 i hi
      simp only [beq_iff_eq] at he
      exact ⟨o.after[k], Array.getElem_mem hk, he⟩
    have key := any_last (P := P) (Q := Q) (md := .any) (o := o) hg hord hall h3 ops.pop.size (Array.replicate ops.pop.size false) a w.drew (by simp) (by
      rw [← hp]
      exact wpAny_of_held _ _ _ _ (h hS))
    refine wp_region_any hm ?_
    rw [← hp, ← Array.replicate_succ, ← hsz] at key
    exact key
end Go.Proofs.YtbpdbggojgijiaaGreatDoor
