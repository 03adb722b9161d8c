/- Plain: the words that are taken are those of the line; what is written is data as text. -/
import Derived.Test.YtbpdbggojgijiaaGreatDoorSourceI
namespace Go.Proofs.YtbpdbggojgijiaaGreatDoor.Src
open Go
set_option linter.unusedVariables false

theorem cutB_first {c : UInt8} : ∀ {l : By} {o : Nat}, Lib.indexByte l c = o → cutB c l = l.take o :: cutB c (l.drop (o + 1))
  | [], o, h => by
    simp only [Lib.indexByte] at h
    omega
  | a :: l, o, h => by
    unfold Lib.indexByte at h
    by_cases e : a = c
    · subst e
      rw [if_pos (beq_self_eq_true _)] at h
      obtain rfl : o = 0 := by omega
      show (if a = a then [] :: cutB a l else match cutB a l with | [] => [[a]] | h :: t => (a :: h) :: t) = _
      rw [if_pos rfl]
      rfl
    · rw [if_neg (by simpa using e)] at h
      by_cases e2 : Lib.indexByte l c = -1
      · rw [if_pos (by simpa using e2)] at h
        omega
      · rw [if_neg (by simpa using e2)] at h
        have hge := Lib.indexByte_ge l c
        obtain ⟨p, hp⟩ : ∃ p : Nat, Lib.indexByte l c = p := ⟨(Lib.indexByte l c).toNat, by omega⟩
        obtain rfl : o = p + 1 := by omega
        show (if a = c then [] :: cutB c l else match cutB c l with | [] => [[a]] | h :: t => (a :: h) :: t) = _
        rw [if_neg e, cutB_first hp]
        rfl
theorem cut32_hit {l : By} {o : Nat} (h : Lib.indexByte l 32 = o) : hdW l = l.take o ∧ tlW l = l.drop (o + 1) := by
  have e : Lib.index l [32] = o := by rw [Lib.index_one]; exact h
  constructor
  · unfold hdW Lib.cut
    rw [e, if_pos (by omega)]
    rfl
  · unfold tlW Lib.cut
    rw [e, if_pos (by omega)]
    rfl
theorem cut32_miss {l : By} (h : Lib.indexByte l 32 = -1) : hdW l = l ∧ tlW l = [] := by
  have e : Lib.index l [32] = -1 := by rw [Lib.index_one]; exact h
  constructor
  · unfold hdW Lib.cut
    rw [e, if_neg (by decide)]
  · unfold tlW Lib.cut
    rw [e, if_neg (by decide)]
theorem cutB_miss {c : UInt8} {l : By} (h : Lib.indexByte l c = -1) : cutB c l = [l] := cutB_none fun hm => by
  obtain ⟨k, hk⟩ := List.mem_iff_getElem?.1 hm
  exact Lib.indexByte_none h k hk
theorem idx_two (l : By) : Lib.indexByte l 32 = -1 ∨ ∃ o : Nat, Lib.indexByte l 32 = o := by
  have := Lib.indexByte_ge l 32
  by_cases e : Lib.indexByte l 32 = -1
  · exact .inl e
  · exact .inr ⟨(Lib.indexByte l 32).toNat, by omega⟩
theorem tlN_nil : ∀ k, tlN k [] = []
  | 0 => rfl
  | k + 1 => by
    show tlN k (tlW []) = []
    rw [show tlW [] = [] from (cut32_miss rfl).2]
    exact tlN_nil k
/-- the k-th word that is taken is the line's k-th one -/
theorem wN_wd : ∀ (k : Nat) (l : By), wN k l = wd (cutB 32 l) k
  | 0, l => by
    show hdW l = _
    rcases idx_two l with h | ⟨o, h⟩
    · rw [(cut32_miss h).1, cutB_miss h]
      rfl
    · rw [(cut32_hit h).1, cutB_first h]
      rfl
  | k + 1, l => by
    show wN k (tlW l) = _
    rcases idx_two l with h | ⟨o, h⟩
    · rw [(cut32_miss h).2, cutB_miss h, wN_wd k []]
      show (cutB 32 []).getD k [] = [l].getD (k + 1) []
      cases k <;> rfl
    · rw [(cut32_hit h).2, cutB_first h, wN_wd k]
      rfl
theorem tlN_wN (k j : Nat) (l : By) : wN k (tlN j l) = wN (j + k) l := by
  unfold wN
  congr 1
  induction j generalizing l with
  | zero => rw [Nat.zero_add]; rfl
  | succ j ih =>
    rw [Nat.succ_add]
    exact ih (tlW l)
/-- data, as lists -/
def pdOf (D : Dt) : PD := ⟨(List.range D.ns).map fun j => ((D.ss j).nm.data.toList, (List.range (D.ss j).n).map (D.ss j).rs), (List.range D.nz).map fun j => ((D.zs j).nm.data.toList, (List.range (D.zs j).n).map (D.zs j).es), (List.range D.nl).map fun j => ((D.ls j).nm.data.toList, (D.ls j).to.data.toList)⟩
theorem linesB_flat {α : Type} (f : α → List (List By)) : ∀ l : List α, linesB ((l.flatMap f).map joinW) = l.flatMap fun x => linesB ((f x).map joinW)
  | [] => rfl
  | x :: l => by rw [List.flatMap_cons, List.map_append, lines_app, linesB_flat f l, List.flatMap_cons]
theorem linesB_map {α : Type} (f : α → List By) : ∀ l : List α, linesB ((l.map f).map joinW) = l.flatMap fun x => joinW (f x) ++ [10]
  | [] => rfl
  | x :: l => by
    rw [List.map_cons, List.map_cons, List.flatMap_cons, ← linesB_map f l]
    rfl
theorem show_eq (D : Dt) : showD D = showP Lib.itoa (pdOf D) := by
  unfold showD showP lnAll pdOf
  rw [List.map_append, List.map_append, lines_app, lines_app]
  congr 1
  · rw [linesB_flat, List.flatMap_map]
    unfold catJ
    congr 1
    funext j
    show setJ _ _ = _
    unfold setJ lnSet
    simp [Function.comp_def]
  · congr 1
    · rw [linesB_flat, List.flatMap_map]
      unfold catJ
      congr 1
      funext j
      show zoneJ _ _ = _
      unfold zoneJ lnZone
      simp [Function.comp_def]
    · rw [linesB_map, List.flatMap_map]
      rfl
end Go.Proofs.YtbpdbggojgijiaaGreatDoor.Src
