/- Of europe's Town: ninety turns, the first at 0, the second at 500000000. -/
import Derived.Test.YtdffopkljomipaaGreatDoorTableN
namespace Go.Proofs.YtdffopkljomipaaGreatDoor
open Go Go.RowKit Go.Maps Go.Shelf
set_option linter.unusedVariables false

/-- each time has something else than the one ahead -/
def difL {α : Type} (eq : α → α → Bool) (f : Int → α) : Int → List Int → Bool
  | _, [] => true
  | a, b :: L => !eq (f a) (f b) && difL eq f b L
theorem push_map {α : Type} (eq : α → α → Bool) (f : Int → α) : ∀ (L : List Int) (T : List (Int × α)) (a : Int), T.getLast? = some (a, f a) → difL eq f a L = true → Tab.pushL eq f T L = T ++ L.map fun b => (b, f b)
  | [], T, a, _, _ => by simp [Tab.pushL]
  | b :: L, T, a, h, hd => by
    unfold difL at hd
    rw [Bool.and_eq_true] at hd
    obtain ⟨h1, h2⟩ := hd
    have e : Tab.push1 eq f T b = T ++ [(b, f b)] := by
      unfold Tab.push1
      rw [h]
      simp only
      rw [if_neg (by simpa using h1)]
    unfold Tab.pushL
    rw [e, push_map eq f L _ b (by simp) h2]
    simp
set_option maxRecDepth 100000 in
theorem eu_dif (r b : Nat) : difL oeq (offR (eu r b (-1) old) 0) 0 (tmI (eu r b (-1) old) 0 2).tail = true := by kernel_rfl
set_option maxRecDepth 100000 in
theorem eu_tl (r b : Nat) : (tmI (eu r b (-1) old) 0 2).length = 90 ∧ (tmI (eu r b (-1) old) 0 2)[1]? = some 500000000 := ⟨by kernel_rfl, by kernel_rfl⟩
set_option maxRecDepth 100000 in
theorem eu_tm (r b : Nat) : tmI (eu r b (-1) old) 0 2 = 0 :: (tmI (eu r b (-1) old) 0 2).tail := by kernel_rfl
theorem push_all {α : Type} (eq : α → α → Bool) (f : Int → α) (L M : List Int) (h0 : L = 0 :: M) (hd : difL eq f 0 M = true) : Tab.pushL eq f [] L = L.map fun t => (t, f t) := by
  subst h0
  exact push_map eq f M [(0, f 0)] 0 rfl hd
theorem eu_cmp (r b : Nat) : cmpT (eu r b (-1) old) 0 = (tmI (eu r b (-1) old) 0 2).map fun t => (t, offR (eu r b (-1) old) 0 t) := by
  rw [cmpT_iso]
  unfold cmpI
  show Tab.pushL oeq (offR (eu r b (-1) old) 0) [] (tmI (eu r b (-1) old) 0 2) = _
  exact push_all oeq (offR (eu r b (-1) old) 0) (tmI (eu r b (-1) old) 0 2) (tmI (eu r b (-1) old) 0 2).tail (eu_tm r b) (eu_dif r b)
theorem tuF_nth (f : Int → Of) (L : List Int) (a : Int) (n : Nat) (h : L[n]? = some a) : (tuF (L.map fun t => (t, f t)) n).at_ = a := by
  unfold tuF
  rw [List.getElem?_map, h]
  rfl
theorem first_of {L M : List Int} {a : Int} (h : L = a :: M) : L[0]? = some a := by
  subst h
  rfl
theorem eu_tb (r b : Nat) : (cmpT (eu r b (-1) old) 0).length = 90 ∧ (tuF (cmpT (eu r b (-1) old) 0) 0).at_ = 0 ∧ (tuF (cmpT (eu r b (-1) old) 0) 1).at_ = 500000000 := by
  rw [eu_cmp]
  have h0 := first_of (eu_tm r b)
  have h1 := (eu_tl r b).2
  have h2 := (eu_tl r b).1
  generalize tmI (eu r b (-1) old) 0 2 = L at h0 h1 h2
  generalize offR (eu r b (-1) old) 0 = f
  exact ⟨by rw [List.length_map]; exact h2, tuF_nth f L 0 0 h0, tuF_nth f L 500000000 1 h1⟩
end Go.Proofs.YtdffopkljomipaaGreatDoor
