/- Compile's times by an insertion sort, which the kernel reckons. -/
import Derived.Test.YtdffopkljomipaaGreatDoorTableK
namespace Go.Proofs.YtdffopkljomipaaGreatDoor
open Go Go.RowKit Go.Maps Go.Shelf
set_option linter.unusedVariables false

def insI (a : Int) : List Int → List Int
  | [] => [a]
  | b :: l => if a ≤ b then a :: b :: l else b :: insI a l
def isoI : List Int → List Int
  | [] => []
  | a :: l => insI a (isoI l)
theorem insI_perm (a : Int) : ∀ l, (insI a l).Perm (a :: l)
  | [] => .refl _
  | b :: l => by
    unfold insI
    split
    · exact .refl _
    · exact ((insI_perm a l).cons b).trans (.swap _ _ _)
theorem isoI_perm : ∀ l, (isoI l).Perm l
  | [] => .refl _
  | a :: l => (insI_perm a _).trans ((isoI_perm l).cons a)
theorem insI_up (a : Int) : ∀ l : List Int, l.Pairwise (fun a b => a ≤ b) → (insI a l).Pairwise (fun a b => a ≤ b)
  | [], _ => by simp [insI]
  | b :: l, h => by
    obtain ⟨h1, h2⟩ := List.pairwise_cons.1 h
    unfold insI
    split
    · rename_i hab
      refine List.pairwise_cons.2 ⟨fun x hx => ?_, h⟩
      rcases List.mem_cons.1 hx with rfl | hx
      · exact hab
      · have := h1 x hx; omega
    · rename_i hab
      refine List.pairwise_cons.2 ⟨fun x hx => ?_, insI_up a l h2⟩
      rcases List.mem_cons.1 ((insI_perm a l).mem_iff.1 hx) with rfl | hx
      · omega
      · exact h1 x hx
theorem isoI_up : ∀ l : List Int, (isoI l).Pairwise (fun a b => a ≤ b)
  | [] => .nil
  | a :: l => insI_up a _ (isoI_up l)
theorem up_uniq : ∀ {l m : List Int}, l.Perm m → l.Pairwise (fun a b => a ≤ b) → m.Pairwise (fun a b => a ≤ b) → l = m
  | [], m, h, _, _ => h.nil_eq
  | a :: l, [], h, _, _ => h.symm.nil_eq.symm
  | a :: l, b :: m, h, h1, h2 => by
    obtain ⟨p1, p2⟩ := List.pairwise_cons.1 h1
    obtain ⟨q1, q2⟩ := List.pairwise_cons.1 h2
    have hab : a ≤ b := by
      rcases List.mem_cons.1 (h.mem_iff.2 (List.mem_cons.2 (.inl rfl))) with e | e
      · omega
      · exact p1 b e
    have hba : b ≤ a := by
      rcases List.mem_cons.1 (h.mem_iff.1 (List.mem_cons.2 (.inl rfl))) with e | e
      · omega
      · exact q1 a e
    obtain rfl : a = b := by omega
    rw [up_uniq (List.Perm.cons_inv h) p2 q2]
theorem srtI_iso (l : List Int) : srtI l = isoI l := up_uniq ((List.mergeSort_perm _ _).trans (isoI_perm l).symm) (srtI_up l) (isoI_up l)
end Go.Proofs.YtdffopkljomipaaGreatDoor
