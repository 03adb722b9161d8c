/- The walk of the statement DataTells: it returns true, and nothing that lay in memory has turned. -/
import Derived.Test.YtcdokhjmpkcpnabDoorDataBegunW
import Derived.Test.YtcdokhjmpkcpnabDoorRefUAll
import Derived.Deep.RegionHeld3
namespace Go.Proofs.YtcdokhjmpkcpnabDoor
open Go Go.RowKit Go.Maps
set_option linter.unusedVariables false

theorem box3_on {w w' : World} {b : Nat} {x y z : Value} (h : w.cell? ⟨b, 0, none⟩ = some x ∧ w.cell? ⟨b, 1, none⟩ = some y ∧ w.cell? ⟨b, 2, none⟩ = some z) (hb : Below w.heap.size w w') : w'.cell? ⟨b, 0, none⟩ = some x ∧ w'.cell? ⟨b, 1, none⟩ = some y ∧ w'.cell? ⟨b, 2, none⟩ = some z :=
  ⟨cell_on h.1 hb, cell_on h.2.1 hb, cell_on h.2.2 hb⟩
set_option maxRecDepth 100000 in
set_option maxHeartbeats 8000000 in
theorem DataTells_w (D : Dt) (s : ByteArray) (w : World) (hL : Laid w) (hM : Mx w) (hD : DAt w D) (hF : D.fits) (hs : s.size ≤ maxLen) :
    Calls Tryd.prog 7 #[D.v, .string s] w fun e w' => e = .returned (.bool true) ∧ Below w.heap.size w w' := by
  have HS := hideH hs
  have HF := hideH hF
  have HEE : Hid (∀ v : World, Below w.heap.size w v → Env v D) := fun v h => ⟨hL.on h, hM.on h, hD.on h⟩
  have HLL : Hid (∀ v : World, Below w.heap.size w v → Laid v) := fun v h => hL.on h
  have HMM : Hid (∀ v : World, Below w.heap.size w v → Mx v) := fun v h => hM.on h
  have HDD : Hid (∀ v : World, Below w.heap.size w v → DAt v D) := fun v h => hD.on h
  clear hL hM hD hF hs
  have hb0 := hideH ((Below.refl _ w).alloc (Nat.le_refl _) (.cells #[.slice D.sa D.ns D.sc, .slice D.za D.nz D.zc, .slice D.la D.nl D.lc] 43))
  have hc0 := hideH (World.alloc_heap_new w (.cells #[.slice D.sa D.ns D.sc, .slice D.za D.nz D.zc, .slice D.la D.nl D.lc] 43))
  have HZ1 : Hid (∀ v, Below w.heap.size w v → Calls Tryd.prog 17 #[D.v, .string s] v fun e w' => e = .returned (.tuple #[.int .i64 (zonR D s), .int .i64 (zonE D s)]) ∧ Below v.heap.size v w') := fun v hv => DZone_c D s v (HEE.out v hv) HF.out HS.out
  have HZ2 : Hid (∀ v, Below w.heap.size w v → Calls Tryd.prog 18 #[D.v, .string s] v fun e w' => e = .returned (.tuple #[.int .i64 (zonR D s), .int .i64 (zonE D s)]) ∧ Below v.heap.size v w') := fun v hv => ZoneOf_c D s v (HDD.out v hv) HF.out HS.out
  have HC1 : Hid (∀ v, Below w.heap.size w v → Calls Tryd.prog 20 #[D.v] v fun e w' => e = .returned (.int .i64 (chkE D)) ∧ Below v.heap.size v w') := fun v hv => DCheck_c D v (HEE.out v hv) HF.out
  have HC2 : Hid (∀ v, Below w.heap.size w v → Calls Tryd.prog 21 #[D.v] v fun e w' => e = .returned (.int .i64 (chkE D)) ∧ Below v.heap.size v w') := fun v hv => CheckData_c D v (HDD.out v hv) HF.out
  have HN1 : Hid (∀ v, Calls Tryd.prog 22 #[.string s] v fun e w' => e = .returned (.bool (nameB s)) ∧ w' = v) := fun v => Name_c s v HS.out
  have HN2 : Hid (∀ v, Calls Tryd.prog 23 #[.string s] v fun e w' => e = .returned (.bool (nameB s)) ∧ w' = v) := fun v => RIsName_c s v HS.out
  generalize zonR D s = zr at *
  generalize zonE D s = ze at *
  generalize chkE D = ce at *
  generalize nameB s = nb at *
  go_enter Tryd.func7, Tryd.ntmps7
  go_wp2_with fail
  refine (HZ1.out _ hb0.out).mono ?_
  rintro e w1 ⟨rfl, hw1⟩
  have H1 := hideH (bthen hb0.out hw1)
  have C1 := hideH (heap_on hc0.out hw1)
  clear hw1 hb0 hc0
  obtain ⟨c0, c1, c2⟩ := cells3 C1.out
  go_wp2_with fail
  refine (HZ2.out _ H1.out).mono ?_
  rintro e w2 ⟨rfl, hw2⟩
  have H2 := hideH (bthen H1.out hw2)
  have C2 := hideH (cells3 (heap_on C1.out hw2))
  clear hw2 c0 c1 c2 H1 C1
  obtain ⟨c0, c1, c2⟩ := C2.out
  go_wp2_with fail
  go_region_held3 (fun v => v.cell? ⟨w.heap.size, 0, none⟩ = some (.slice D.sa D.ns D.sc) ∧ v.cell? ⟨w.heap.size, 1, none⟩ = some (.slice D.za D.nz D.zc) ∧ v.cell? ⟨w.heap.size, 2, none⟩ = some (.slice D.la D.nl D.lc))
    (first | (exact C2.out) | (exact box3_on (w := w2.drew) C2.out hw3) | (exact box3_on (box3_on (w := w2.drew) C2.out hw3) hw4) | (exact box3_on (box3_on (box3_on (w := w2.drew) C2.out hw3) hw4) hw5))
    (first
    | (go_at_call 19; refine (dataBegun_c _ (HLL.out _ (by exact H2.out.drew)) (HMM.out _ (by exact H2.out.drew))).mono ?_; rintro e w3 ⟨rfl, hw3⟩)
    | (go_at_call 20; refine (HC1.out _ (by exact bthen (w := w) (a := w2.drew) H2.out.drew hw3)).mono ?_; rintro e w4 ⟨rfl, hw4⟩)
    | (go_at_call 21; refine (HC2.out _ (by exact bthen (bthen (w := w) (a := w2.drew) H2.out.drew hw3) hw4)).mono ?_; rintro e w5 ⟨rfl, hw5⟩)
    | (go_at_call 22; refine (HN1.out _).mono ?_; rintro e w6 ⟨rfl, rfl⟩)
    | (go_at_call 23; refine (HN2.out _).mono ?_; rintro e w7 ⟨rfl, rfl⟩))
  all_goals
    go_wp2_with fail
    go_ret
    exact ⟨rfl, bthen (bthen (bthen (w := w) (a := w2.drew) H2.out.drew hw3) hw4) hw5⟩
end Go.Proofs.YtcdokhjmpkcpnabDoor
