/- Plain: what strings.Split tells of a text are its lines. -/
import Derived.Test.YtbpdbggojgijiaaGreatDoorSourceS
import Derived.Lib.SplitLaws
import Derived.Shelf.Strings.Split
namespace Go.Proofs.YtbpdbggojgijiaaGreatDoor.Src
open Go Go.RowKit
set_option linter.unusedVariables false

theorem splitK_cut : ∀ (k : Nat) (l : By), l.count 10 = k → Lib.splitK [10] 0 k l = cutB 10 l
  | 0, l, h => by
    rw [cutB_none (List.count_eq_zero.1 h)]
    rfl
  | k + 1, l, h => by
    have hm : (10 : UInt8) ∈ l := List.count_pos_iff.1 (by omega)
    have hge := Lib.indexByte_ge l 10
    have hne : Lib.indexByte l 10 ≠ -1 := fun e => by
      obtain ⟨j, hj⟩ := List.mem_iff_getElem?.1 hm
      exact Lib.indexByte_none e j hj
    obtain ⟨o, ho⟩ : ∃ o : Nat, Lib.indexByte l 10 = o := ⟨(Lib.indexByte l 10).toNat, by omega⟩
    have hi : Lib.index l [10] = o := by rw [Lib.index_one]; exact ho
    obtain ⟨h1, h2⟩ := Lib.indexByte_some ho
    have hol := (List.getElem?_eq_some_iff.1 h1).1
    have hsp : l = l.take o ++ 10 :: l.drop (o + 1) := by
      have e := List.drop_eq_getElem_cons hol
      have e2 : l[o] = 10 := (List.getElem?_eq_some_iff.1 h1).2
      rw [e2] at e
      rw [← e, List.take_append_drop]
    have hc : (l.take o).count 10 = 0 := List.count_eq_zero.2 fun hmem => by
      obtain ⟨j, hj⟩ := List.mem_iff_getElem?.1 hmem
      have hjo : j < o := by
        have := (List.getElem?_eq_some_iff.1 hj).1
        rw [List.length_take] at this
        omega
      rw [List.getElem?_take, if_pos hjo] at hj
      exact h2 j hjo hj
    have hk : (l.drop (o + 1)).count 10 = k := by
      have := congrArg (List.count 10) hsp
      rw [List.count_append, hc, List.count_cons_self, h] at this
      omega
    unfold Lib.splitK
    rw [if_neg (by rw [hi, beq_iff_eq]; omega), hi, cutB_first ho]
    show l.take ((o : Int).toNat + 0) :: Lib.splitK [10] 0 k (l.drop ((o : Int).toNat + 1)) = _
    rw [show (o : Int).toNat = o from rfl, Nat.add_zero, splitK_cut k _ hk]
theorem splitB_cut (s : By) : Lib.splitB ⟨#[10]⟩ 0 (Lib.countB ⟨s.toArray⟩ ⟨#[10]⟩) ⟨s.toArray⟩ = (cutB 10 s).map fun l => (⟨l.toArray⟩ : ByteArray) := by
  have h := Lib.splitB_data ⟨#[10]⟩ 0 (Lib.countB ⟨s.toArray⟩ ⟨#[10]⟩) ⟨s.toArray⟩
  have e : Lib.countB ⟨s.toArray⟩ ⟨#[10]⟩ = s.count 10 := (Lib.count_one 10 s)
  have h2 : (Lib.splitB ⟨#[10]⟩ 0 (Lib.countB ⟨s.toArray⟩ ⟨#[10]⟩) ⟨s.toArray⟩).map (·.data.toList) = cutB 10 s := by
    rw [h, e]
    exact splitK_cut _ s rfl
  rw [← h2, List.map_map]
  refine ((List.map_congr_left fun x _ => ?_).trans (List.map_id _)).symm
  rfl
theorem split10_c (s : By) (w : World) (hM : Mx w) (hs : s.length < 4294967281) : Calls Tryz.prog 45 #[.string ⟨s.toArray⟩, .string ⟨#[10]⟩] w fun e w' => e = .returned (.slice (some ⟨w.heap.size, 0, none⟩) (cutB 10 s).length (cutB 10 s).length) ∧ w' = w.alloc (.cells ((cutB 10 s).map fun l => Value.string ⟨l.toArray⟩).toArray 9) := by
  obtain ⟨m, hm⟩ := hM
  have hl := Lib.splitB_all ⟨#[10]⟩ (by decide) 0 _ (⟨s.toArray⟩ : ByteArray) rfl
  have hb := splitB_cut s
  refine (Any.strings_Split { Tryz.laysM146 with } (by kernel_rfl) ⟨s.toArray⟩ ⟨#[10]⟩ m w (by show s.toArray.size < _; simpa using hs) hm (by decide)).mono ?_
  rintro e w' ⟨rfl, rfl⟩
  rw [← hl, hb, List.map_map, List.length_map]
  exact ⟨rfl, rfl⟩
end Go.Proofs.YtbpdbggojgijiaaGreatDoor.Src
