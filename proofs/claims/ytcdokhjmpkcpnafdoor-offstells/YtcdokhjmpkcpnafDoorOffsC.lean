/- What Show and Read of package offs answer, in plain Lean; what must be in any case. -/
import Derived.Test.YtcdokhjmpkcpnafDoorOffsB
namespace Go.Proofs.YtcdokhjmpkcpnafDoor
open Go Go.RowKit
set_option linter.unusedVariables false

theorem gs_show {st n : Int} (h : Ofs.isSt st = true) (ho : Ofs.offB n = true) : gs st (Ofs.sh st n) = n := by
  obtain ⟨v, h1, h2, h3, h4⟩ := Ofs.guess_show h ho
  unfold gs
  rw [h1]
  unfold gW
  have e1 : -100 < v.tmod 100 ∧ v.tmod 100 < 100 := by
    have a := Int.tmod_lt_of_pos v (show (0 : Int) < 100 by omega)
    have b := Int.lt_tmod_of_pos v (show (0 : Int) < 100 by omega)
    omega
  have hr : -57600 ≤ n ∧ n ≤ 57600 := by unfold Ofs.offB at ho; simp only [decide_eq_true_eq] at ho; omega
  generalize v.tmod 100 = b at *
  generalize v.tdiv 100 = a at *
  unfold wrap64
  omega
theorem rd_show {st n : Int} (h : Ofs.isSt st = true) (ho : Ofs.offB n = true) : rdN st (Ofs.sh st n) = n ∧ rdE st (Ofs.sh st n) = 0 := by
  have hg := gs_show h ho
  unfold rdN rdE
  rw [hg, if_pos ⟨h, ho, rfl⟩, if_pos h, if_pos ⟨ho, rfl⟩]
  exact ⟨rfl, rfl⟩
theorem rd_ok {st : Int} {s : List UInt8} (h : rdE st s = 0) : Ofs.isSt st = true ∧ Ofs.offB (rdN st s) = true ∧ Ofs.sh st (rdN st s) = s := by
  unfold rdE at h
  by_cases h1 : Ofs.isSt st = true
  · rw [if_pos h1] at h
    by_cases h2 : Ofs.offB (gs st s) = true ∧ Ofs.sh st (gs st s) = s
    · have : rdN st s = gs st s := by unfold rdN; rw [if_pos ⟨h1, h2⟩]
      rw [this]; exact ⟨h1, h2⟩
    · rw [if_neg h2] at h; cases h
  · rw [if_neg h1] at h; cases h
theorem rd_no {st : Int} {s : List UInt8} (h : Ofs.isSt st = true) (hn : ∀ n, Ofs.offB n = true → Ofs.sh st n ≠ s) : rdN st s = 0 ∧ rdE st s = 1 := by
  unfold rdN rdE
  rw [if_neg (fun x => hn _ x.2.1 x.2.2), if_pos h, if_neg (fun x => hn _ x.1 x.2)]
  exact ⟨rfl, rfl⟩
theorem rd_kind {st : Int} {s : List UInt8} (h : Ofs.isSt st = false) : rdN st s = 0 ∧ rdE st s = 8 := by
  unfold rdN rdE
  simp [h]
theorem shw_ok {st n : Int} (h : shwE st n = 0) : Ofs.isSt st = true ∧ Ofs.offB n = true ∧ shwT st n = Ofs.sh st n := by
  unfold shwE at h
  by_cases h1 : Ofs.isSt st = true
  · rw [if_pos h1] at h
    by_cases h2 : Ofs.offB n = true
    · exact ⟨h1, h2, by unfold shwT; rw [if_pos ⟨h1, h2⟩]⟩
    · rw [if_neg h2] at h; cases h
  · rw [if_neg h1] at h; cases h
theorem ob1 : shwT 1 (-5400) = [45, 48, 49, 51, 48] ∧ shwE 1 (-5400) = 0 := by decide +kernel
theorem ob2 : shwT 3 7200 = [71, 77, 84, 43, 50] ∧ shwE 3 7200 = 0 := by decide +kernel
theorem ob3 : shwT 4 (-1800) = [71, 77, 84, 45, 48, 48, 58, 51, 48] ∧ shwE 4 (-1800) = 0 := by decide +kernel
theorem ob4 : shwT 2 0 = [90] ∧ shwE 2 0 = 0 := by decide +kernel
theorem ob5 : rdN 3 [71, 77, 84, 45, 48, 58, 51, 48] = -1800 ∧ rdE 3 [71, 77, 84, 45, 48, 58, 51, 48] = 0 := by decide +kernel
theorem ob6 : rdN 3 [71, 77, 84, 43, 48] = 0 ∧ rdE 3 [71, 77, 84, 43, 48] = 1 := by decide +kernel
set_option maxHeartbeats 4000000 in
theorem offsBegun_c (w : World) (hE : EV w) : Calls Tryd.prog 10 #[] w fun e w' => e = .returned (.bool true) ∧ Below w.heap.size w w' := by
  have HEV : Hid (∀ v, Below w.heap.size w v → EV v) := fun v hv => hE.on hv
  clear hE
  have HS1 := hideO (fun v => Show_c 1 (-5400) v)
  have HS2 := hideO (fun v => Show_c 3 7200 v)
  have HS3 := hideO (fun v => Show_c 4 (-1800) v)
  have HS4 := hideO (fun v => Show_c 2 0 v)
  have HR1 := hideO (fun v (hv : Below w.heap.size w v) => Read_c 3 [71, 77, 84, 45, 48, 58, 51, 48] (by decide) v (HEV.out v hv))
  have HR2 := hideO (fun v (hv : Below w.heap.size w v) => Read_c 3 [71, 77, 84, 43, 48] (by decide) v (HEV.out v hv))
  rw [ob1.1, ob1.2] at HS1
  rw [ob2.1, ob2.2] at HS2
  rw [ob3.1, ob3.2] at HS3
  rw [ob4.1, ob4.2] at HS4
  rw [ob5.1, ob5.2] at HR1
  rw [ob6.1, ob6.2] at HR2
  go_enter Tryd.func10, Tryd.ntmps10
  go_wp2_with fail
  refine (HS1.out _).mono ?_
  rintro e w1 ⟨rfl, h1⟩
  have H1 := hideO h1
  clear h1
  go_wp2_with fail
  refine (HS2.out _).mono ?_
  rintro e w2 ⟨rfl, h2⟩
  have H2 := hideO (bthenO H1.out h2)
  clear h2
  go_wp2_with fail
  refine (HS3.out _).mono ?_
  rintro e w3 ⟨rfl, h3⟩
  have H3 := hideO (bthenO H2.out h3)
  clear h3
  go_wp2_with fail
  refine (HS4.out _).mono ?_
  rintro e w4 ⟨rfl, h4⟩
  have H4 := hideO (bthenO H3.out h4)
  clear h4
  go_wp2_with fail
  refine (HR1.out _ H4.out).mono ?_
  rintro e w5 ⟨rfl, h5⟩
  have H5 := hideO (bthenO H4.out h5)
  clear h5
  go_wp2_with fail
  refine (HR2.out _ H5.out).mono ?_
  rintro e w6 ⟨rfl, h6⟩
  have H6 := hideO (bthenO H5.out h6)
  clear h6
  go_wp2_with fail
  go_ret
  exact ⟨rfl, H6.out⟩
end Go.Proofs.YtcdokhjmpkcpnafDoor
