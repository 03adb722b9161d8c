/- table.Compile where the zone isn't told. -/
import Derived.Test.YtdffopkljomipaaGreatDoorTableI
namespace Go.Proofs.YtdffopkljomipaaGreatDoor
open Go Go.RowKit Go.Maps Go.Shelf
set_option linter.unusedVariables false

set_option maxRecDepth 100000 in
set_option maxHeartbeats 8000000 in
theorem Compile_no (D : Dt) (s : ByteArray) (w : World) (hE : Env w D) (hF : D.fits) (hs : s.size ≤ maxLen) (h0 : zonE D s ≠ 0) :
    Calls Tryz.prog 7 #[D.v, .string s] w fun e w' => e = .returned (.tuple #[.slice none 0 0, .int .i64 (zonE D s)]) ∧ Below w.heap.size w w' := by
  have HE := hideH hE
  have bx := two_boxes w (.cells (dC D) 26) (.cells #[.string s] 9)
  obtain ⟨W0, hW0⟩ : ∃ W0, W0 = (w.alloc (.cells (dC D) 26)).alloc (.cells #[.string s] 9) := ⟨_, rfl⟩
  rw [← hW0] at bx
  have HB := hideH bx.1
  have HZ := hideH (DZone_c D s W0 (HE.out.on HB.out) hF hs)
  obtain ⟨ze, hze⟩ : ∃ ze, ze = zonE D s := ⟨_, rfl⟩
  obtain ⟨zr, hzr⟩ : ∃ zr, zr = zonR D s := ⟨_, rfl⟩
  rw [← hze, ← hzr] at HZ
  rw [← hze] at h0 ⊢
  simp only [dC] at hW0
  rw [hW0] at HZ
  clear hze hzr bx hE
  refine calls_of_wpG Tryz.func7 rfl ?_
  simp only [Tryz.ntmps7, List.size_toArray, List.length_cons, List.length_nil, Nat.reduceAdd, Nat.reduceSub, Array.replicate_succ, Array.replicate_zero, List.push_toArray, List.append_toArray, List.nil_append, List.cons_append]
  refine wpG_seq (wpG_plain ?_)
  go_wp2
  refine wpG_seq (wpG_plain ?_)
  go_wp2_with (go_at_call 15; refine HZ.out.mono ?_; rintro e w1 ⟨rfl, hw⟩)
  rw [← hW0] at hw
  refine wpG_seq (wpG_plain ?_)
  have HW := hideH (bthen HB.out hw)
  clear hw
  go_wp2
  show LeavesInM _ _ _ _ _ _ _ _ _
  exact ⟨.tuple #[.slice none 0 0, .int .i64 ze], by simp [results, Tryz.results7, go_sem], rfl, HW.out⟩
/-- what table.Compile answers -/
def cpP (D : Dt) (s : ByteArray) (w : World) (e : Ending) (w' : World) : Prop := Below w.heap.size w w' ∧ ((zonE D s = 0 ∧ ∃ (k : Nat) (v : Value), zonR D s = k ∧ k < D.nz ∧ e = .returned (.tuple #[v, .int .i64 0]) ∧ w'.ownsRow w.heap.size 41 4 v (cmpT D k).length (trc (cmpT D k))) ∨ (zonE D s ≠ 0 ∧ e = .returned (.tuple #[.slice none 0 0, .int .i64 (zonE D s)])))
theorem Compile_c (D : Dt) (s : ByteArray) (w : World) (hE : Env w D) (hF : D.fits) (hs : s.size ≤ maxLen) : Calls Tryz.prog 7 #[D.v, .string s] w fun e w' => cpP D s w e w' := by
  by_cases h0 : zonE D s = 0
  · obtain ⟨hc, k, hk, hkz⟩ := zon_ok h0
    refine (Compile_ok D s k w hE hF hs h0 hk hkz).mono ?_
    rintro e w' ⟨v, rfl, ho, hb⟩
    exact ⟨hb, .inl ⟨h0, k, v, hk, hkz, rfl, ho⟩⟩
  · refine (Compile_no D s w hE hF hs h0).mono ?_
    rintro e w' ⟨rfl, hb⟩
    exact ⟨hb, .inr ⟨h0, rfl⟩⟩
end Go.Proofs.YtdffopkljomipaaGreatDoor
