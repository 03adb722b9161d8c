/- As LastOp, where the last operation waits for some of the others through another one. -/
import Derived.Test.YtbpdbggojgijiaaGreatDoorLastOp
namespace Go.Proofs.YtbpdbggojgijiaaGreatDoor
open Go Go.RowKit
set_option linter.unusedVariables false

variable {P : Program}
variable {ops : Array Oper} {o : Oper} {Q : Exit → Act → World → Prop} {md : Region.Mode}
/-- whatever has come up, what it waits for has come up -/
def Clo (md : Region.Mode) (ops : Array Oper) (listed : Array Bool) : Prop := ∀ (i : Nat) (oi : Oper), ops[i]? = some oi → listed.getD i false = true → ∀ e ∈ oi.after, Region.binds md e = true → listed.getD e.on false = true
theorem set_mono {listed : Array Bool} {i k : Nat} (h : listed.getD k false = true) : (listed.setIfInBounds i true).getD k false = true := by
  by_cases e : i = k
  · subst e
    simp only [Array.getD, Array.size_setIfInBounds] at h ⊢
    split at h
    · rename_i hl
      rw [dif_pos hl]
      simp
    · cases h
  · rw [getD_set_ne false e]
    exact h
theorem Clo.set {listed : Array Bool} {i : Nat} (hc : Clo md ops listed) (hi : i < listed.size) (hr : i ∈ Region.ready md ops listed) : Clo md ops (listed.setIfInBounds i true) := by
  intro k ok hk hl e he hb
  by_cases ek : i = k
  · subst ek
    obtain ⟨_, oi, h2, h3⟩ := mem_ready.1 hr
    obtain rfl : oi = ok := by rw [h2] at hk; exact Option.some.inj hk
    exact set_mono (h3 e he hb)
  · rw [getD_set_ne false ek] at hl
    exact set_mono (hc k ok hk hl e he hb)
theorem any_last2 (hg : ∀ (j : Nat) (oj : Oper), ops[j]? = some oj → oj.guard = none) (hord : ∀ (i : Nat) (oi : Oper), ops[i]? = some oi → ∀ e ∈ oi.after, e.on < i) (hall : ∀ i, i < ops.size → (∃ e ∈ o.after, e.on = i ∧ Region.binds md e = true) ∨ ∃ (j : Nat) (oj : Oper), ops[j]? = some oj ∧ (∃ e ∈ o.after, e.on = j ∧ Region.binds md e = true) ∧ ∃ e ∈ oj.after, e.on = i ∧ Region.binds md e = true) (hin : ∀ e ∈ o.after, e.on < ops.size) :
    ∀ (fuel : Nat) (listed : Array Bool) (a : Act) (w : World), listed.size = ops.size → Clo md ops listed → wpAny P md ops (Qlast P (ops.push o) Q ops.size) fuel listed a w → wpAny P md (ops.push o) Q (fuel + 1) (listed.push false) a w := by
  have hord' : ∀ (i : Nat) (oi : Oper), ops[i]? = some oi → ∀ e ∈ oi.after, e.on < ops.size := fun i oi h e he => Nat.lt_trans (hord i oi h e he) (Array.getElem?_eq_some_iff.1 h).1
  have hlast : ∀ listed : Array Bool, listed.size = ops.size → Clo md ops listed → (ops.size ∈ Region.ready md (ops.push o) (listed.push false) ↔ ∀ i, i < ops.size → listed.getD i false = true) := fun listed hs hc => by
    rw [mem_ready, ← hs, getD_push_eq, hs]
    constructor
    · rintro ⟨_, oi, h2, h3⟩ i hi
      obtain rfl : o = oi := by simpa using h2
      rcases hall i hi with ⟨e, he, rfl, hb⟩ | ⟨j, oj, hj, ⟨e, he, rfl, hb⟩, e', he', rfl, hb'⟩
      · have := h3 e he hb
        rwa [getD_push_lt (by omega)] at this
      · have := h3 e he hb
        rw [getD_push_lt (by have := hin e he; omega)] at this
        exact hc _ _ hj this e' he' hb'
    · intro h
      exact ⟨rfl, o, by simp, fun e he _ => by rw [getD_push_lt (by have := hin e he; omega)]; exact h _ (hin e he)⟩
  have hfin : ∀ listed : Array Bool, listed.size = ops.size → (∀ i, i < ops.size → listed.getD i false = true) → Region.ready md (ops.push o) ((listed.push false).setIfInBounds ops.size true) = [] := fun listed hs h => by
    refine ready_all fun i hi => ?_
    simp at hi
    by_cases e : i = ops.size
    · subst e
      simp [Array.getD, hs]
    · have hi2 : i < ops.size := by omega
      have h1 := h i hi2
      have e3 : listed.getD i false = listed[i]'(by omega) := by simp [Array.getD, hs, hi2]
      rw [e3] at h1
      have : ((listed.push false).setIfInBounds ops.size true).getD i true = listed[i]'(by omega) := by
        rw [getD_set_ne true (Ne.symm e), getD_push_lt (by omega)]
        simp [Array.getD, hs, hi2]
      rw [this, h1]
  intro fuel
  induction fuel with
  | zero =>
    intro listed a w hs hc H
    have hall2 := fun i hi => (ready_none hs hord H.1 i hi).2
    have hm := (hlast listed hs hc).2 hall2
    refine ⟨fun h => (by rw [h] at hm; cases hm), fun i hi => ?_⟩
    have hin2 : i < ops.size + 1 := by
      obtain ⟨_, oi, h2, _⟩ := mem_ready.1 hi
      have := (Array.getElem?_eq_some_iff.1 h2).1
      simpa using this
    by_cases e : i = ops.size
    · subst e
      exact wpOp_mono (fun a' w' h => ⟨hfin listed hs hall2, h⟩) H.2
    · have := (ready_lt (o := o) hs hord' (by omega)).1 hi
      rw [H.1] at this
      cases this
  | succ fuel ih =>
    intro listed a w hs hc H
    refine ⟨fun h => ?_, fun i hi => ?_⟩
    · exfalso
      have hr : Region.ready md ops listed = [] := by
        apply List.eq_nil_iff_forall_not_mem.2
        intro i hi
        have hil : i < ops.size := by
          obtain ⟨_, oi, h2, _⟩ := mem_ready.1 hi
          exact (Array.getElem?_eq_some_iff.1 h2).1
        have := (ready_lt (o := o) hs hord' hil).2 hi
        rw [h] at this
        cases this
      have hm := (hlast listed hs hc).2 (fun i hi => (ready_none hs hord hr i hi).2)
      rw [h] at hm
      cases hm
    · have hin2 : i < ops.size + 1 := by
        obtain ⟨_, oi, h2, _⟩ := mem_ready.1 hi
        have := (Array.getElem?_eq_some_iff.1 h2).1
        simpa using this
      by_cases e : i = ops.size
      · subst e
        have hall2 := (hlast listed hs hc).1 hi
        have hr : Region.ready md ops listed = [] := ready_all fun i hi => by
          have h1 := hall2 i hi
          have e3 : ∀ d, listed.getD i d = listed[i]'(by omega) := fun d => by simp [Array.getD, hs, hi]
          rw [e3] at h1 ⊢
          exact h1
        refine wpOp_mono (fun a' w' h => ⟨fun _ => h, fun j hj => ?_⟩) (H.1 hr)
        rw [hfin listed hs hall2] at hj
        cases hj
      · have hil : i < ops.size := by omega
        have h1 := H.2 i ((ready_lt (o := o) hs hord' hil).1 hi)
        refine wpOp_q hil hg (fun a' w' h => ?_) h1
        have := ih (listed.setIfInBounds i true) a' w' (by simpa using hs) (hc.set (by omega) ((ready_lt (o := o) hs hord' hil).1 hi)) h
        rw [push_set (by omega)]
        exact this
/-- the same as a question that the kernel answers -/
def lastOK2 (ops : Array Oper) : Bool :=
  match ops.back? with
  | none => false
  | some o => (List.range ops.pop.size).all (fun i => match ops.pop[i]? with | some oi => oi.guard.isNone && oi.after.all (fun e => decide (e.on < i)) | none => true) && (List.range ops.pop.size).all (fun i => (o.after.any fun e => e.on == i && Region.binds .any e) || (List.range ops.pop.size).any fun j => (o.after.any fun e => e.on == j && Region.binds .any e) && match ops.pop[j]? with | some oj => oj.after.any fun e => e.on == i && Region.binds .any e | none => false) && o.after.all fun e => decide (e.on < ops.pop.size)
theorem region_last2 {ops : Array Oper} {id : Nat} {a : Act} {w : World} {S : World → Prop} (hm : P.follows .mixedOrders = true) (hok : lastOK2 ops = true) (hS : S w.drew)
    (h : S w.drew → wpAnyH P .any ops.pop (Qlast P ops Q ops.pop.size) S ops.pop.size (Array.replicate ops.pop.size false) a w.drew) : (Code.region id ops true).wp P Q a w := by
  unfold lastOK2 at hok
  cases hb : ops.back? with
  | none => rw [hb] at hok; cases hok
  | some o =>
    rw [hb] at hok
    rw [Bool.and_eq_true, Bool.and_eq_true] at hok
    obtain ⟨⟨h1, h2⟩, h3⟩ := hok
    rw [List.all_eq_true] at h1 h2
    simp only [List.mem_range] at h1 h2
    simp only [Array.all_eq_true_iff_forall_mem, decide_eq_true_eq] at h3
    have hp : ops = ops.pop.push o := by
      have hs : 0 < ops.size := by
        rcases Nat.eq_zero_or_pos ops.size with e | e
        · rw [Array.back?_eq_getElem?, Array.getElem?_eq_none (by omega)] at hb
          cases hb
        · exact e
      rw [Array.back?_eq_getElem?] at hb
      apply Array.ext_getElem?
      intro i
      rw [Array.getElem?_push, Array.getElem?_pop, Array.size_pop]
      by_cases e : i = ops.size - 1
      · rw [if_pos e, e, hb]
      · rw [if_neg e]
        by_cases h : i < ops.size - 1
        · rw [if_pos h]
        · rw [if_neg h, Array.getElem?_eq_none (by omega)]
    have hsz : ops.size = ops.pop.size + 1 := by rw [hp]; simp
    have hg : ∀ (j : Nat) (oj : Oper), ops.pop[j]? = some oj → oj.guard = none := fun j oj hj => by
      have := h1 j (Array.getElem?_eq_some_iff.1 hj).1
      rw [hj] at this
      simp only [Bool.and_eq_true] at this
      exact Option.isNone_iff_eq_none.1 this.1
    have hord : ∀ (i : Nat) (oi : Oper), ops.pop[i]? = some oi → ∀ e ∈ oi.after, e.on < i := fun i oi hi e he => by
      have := h1 i (Array.getElem?_eq_some_iff.1 hi).1
      rw [hi] at this
      simp only [Bool.and_eq_true, Array.all_eq_true_iff_forall_mem, decide_eq_true_eq] at this
      exact this.2 e he
    have hany : ∀ (x : Oper) (i : Nat), (x.after.any fun e => e.on == i && Region.binds .any e) = true → ∃ e ∈ x.after, e.on = i ∧ Region.binds .any e = true := fun x i hx => by
      obtain ⟨k, hk, he⟩ := Array.any_eq_true.1 hx
      simp only [Bool.and_eq_true, beq_iff_eq] at he
      exact ⟨x.after[k], Array.getElem_mem hk, he⟩
    have hall : ∀ i, i < ops.pop.size → (∃ e ∈ o.after, e.on = i ∧ Region.binds .any e = true) ∨ ∃ (j : Nat) (oj : Oper), ops.pop[j]? = some oj ∧ (∃ e ∈ o.after, e.on = j ∧ Region.binds .any e = true) ∧ ∃ e ∈ oj.after, e.on = i ∧ Region.binds .any e = true := fun i hi => by
      have := h2 i hi
      rw [Bool.or_eq_true] at this
      rcases this with h | h
      · exact .inl (hany o i h)
      · obtain ⟨j, hj, h⟩ := List.any_eq_true.1 h
        rw [Bool.and_eq_true] at h
        cases hoj : ops.pop[j]? with
        | none => rw [hoj] at h; exact absurd h.2 (by simp)
        | some oj =>
          rw [hoj] at h
          exact .inr ⟨j, oj, hoj, hany o j h.1, hany oj i h.2⟩
    have key := any_last2 (P := P) (Q := Q) (md := .any) (o := o) hg hord hall h3 ops.pop.size (Array.replicate ops.pop.size false) a w.drew (by simp) (fun i oi h hl => by simp [Array.getD] at hl) (by
      rw [← hp]
      exact wpAny_of_held _ _ _ _ (h hS))
    refine wp_region_any hm ?_
    rw [← hp, ← Array.replicate_succ, ← hsz] at key
    exact key
end Go.Proofs.YtbpdbggojgijiaaGreatDoor
