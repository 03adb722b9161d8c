/- The walk of the statement OffsBack: it returns true, and nothing that lay in memory has turned. -/
import Derived.Test.YtcdokhjmpkcpnafDoorOffsC
namespace Go.Proofs.YtcdokhjmpkcpnafDoor
open Go Go.RowKit
set_option linter.unusedVariables false

theorem sh_len {st n : Int} (h : Ofs.isSt st = true) : (Ofs.sh st n).length ≤ 20 := by
  unfold Ofs.sh Ofs.shF
  have h1 := clk_len (Ofs.bb st) (Ofs.brB st) (n.natAbs / 3600) (n.natAbs % 3600 / 60)
  have h2 := bb_len st
  have h3 := aa_len st
  split
  · rcases Ofs.st_cases h with rfl | rfl | rfl | rfl <;> decide
  · simp only [List.length_append, List.length_cons, List.length_nil]
    omega
theorem shw_not {st n : Int} (h : shwE st n ≠ 0) : (shwE st n == 0) = false := beq_eq_false_iff_ne.2 h
set_option maxRecDepth 100000 in
set_option maxHeartbeats 8000000 in
theorem OffsBack_w (st n m : Int) (s : List UInt8) (w : World) (hE : EV w) (hs : s.length ≤ 140737488351232) : Calls Tryd.prog 4 #[.int .i64 st, .int .i64 n, .int .i64 m, .string ⟨s.toArray⟩] w fun e w' => e = .returned (.bool true) ∧ Below w.heap.size w w' := by
  have HBg : Hid (∀ v, Below w.heap.size w v → Calls Tryd.prog 10 #[] v fun e w' => e = .returned (.bool true) ∧ Below v.heap.size v w') := fun v hv => offsBegun_c v (hE.on hv)
  have HS1 := hideO (fun v => Show_c st n v)
  have HS2 := hideO (fun v => Show_c st m v)
  have HR2 : Hid (∀ v, Below w.heap.size w v → Calls Tryd.prog 7 #[.int .i64 st, .string ⟨s.toArray⟩] v fun e w' => e = .returned (.tuple #[.int .i64 (rdN st s), .int .i64 (rdE st s)]) ∧ Below v.heap.size v w') := fun v hv => Read_c st s hs v (hE.on hv)
  have HS3 := hideO (fun v => Show_c st (rdN st s) v)
  have key : (∃ T : List UInt8, Hid (∀ v, Calls Tryd.prog 6 #[.int .i64 st, .int .i64 n] v fun e w' => e = .returned (.tuple #[.string ⟨T.toArray⟩, .int .i64 0]) ∧ Below v.heap.size v w') ∧
      Hid (∀ v, Below w.heap.size w v → Calls Tryd.prog 7 #[.int .i64 st, .string ⟨T.toArray⟩] v fun e w' => e = .returned (.tuple #[.int .i64 n, .int .i64 0]) ∧ Below v.heap.size v w') ∧
      ∃ (U : List UInt8) (f : Int), Hid (∀ v, Calls Tryd.prog 6 #[.int .i64 st, .int .i64 m] v fun e w' => e = .returned (.tuple #[.string ⟨U.toArray⟩, .int .i64 f]) ∧ Below v.heap.size v w') ∧
        ((f == 0) = false ∨ (f = 0 ∧ (T == U) = true ∧ (n == m) = true) ∨ (f = 0 ∧ (T == U) = false ∧ (n == m) = false))) ∨
      (∃ (T U : List UInt8) (e f : Int), Hid (∀ v, Calls Tryd.prog 6 #[.int .i64 st, .int .i64 n] v fun x w' => x = .returned (.tuple #[.string ⟨T.toArray⟩, .int .i64 e]) ∧ Below v.heap.size v w') ∧ (e == 0) = false ∧
        Hid (∀ v, Calls Tryd.prog 6 #[.int .i64 st, .int .i64 m] v fun x w' => x = .returned (.tuple #[.string ⟨U.toArray⟩, .int .i64 f]) ∧ Below v.heap.size v w')) := by
    by_cases e0 : shwE st n = 0
    · left
      obtain ⟨a1, a2, a3⟩ := shw_ok e0
      rw [e0, a3] at HS1
      refine ⟨Ofs.sh st n, HS1, fun v hv => ?_, shwT st m, shwE st m, HS2, ?_⟩
      · have := Read_c st (Ofs.sh st n) (by have := sh_len (n := n) a1; omega) v (hE.on hv)
        rw [(rd_show a1 a2).1, (rd_show a1 a2).2] at this
        exact this
      · by_cases f0 : shwE st m = 0
        · obtain ⟨b1, b2, b3⟩ := shw_ok f0
          rw [b3, f0]
          by_cases hnm : n = m
          · subst hnm; exact .inr (.inl ⟨rfl, by simp, by simp⟩)
          · exact .inr (.inr ⟨rfl, beq_eq_false_iff_ne.2 (fun e => hnm (Ofs.sh_inj a1 a2 b2 e)), beq_eq_false_iff_ne.2 hnm⟩)
        · exact .inl (shw_not f0)
    · right
      exact ⟨_, _, _, _, HS1, shw_not e0, HS2⟩
  have key2 : (∃ k h : Int, Hid (∀ v, Below w.heap.size w v → Calls Tryd.prog 7 #[.int .i64 st, .string ⟨s.toArray⟩] v fun e w' => e = .returned (.tuple #[.int .i64 k, .int .i64 h]) ∧ Below v.heap.size v w') ∧ (h != 0) = true) ∨
      (∃ k : Int, Hid (∀ v, Below w.heap.size w v → Calls Tryd.prog 7 #[.int .i64 st, .string ⟨s.toArray⟩] v fun e w' => e = .returned (.tuple #[.int .i64 k, .int .i64 0]) ∧ Below v.heap.size v w') ∧
        Hid (∀ v, Calls Tryd.prog 6 #[.int .i64 st, .int .i64 k] v fun e w' => e = .returned (.tuple #[.string ⟨s.toArray⟩, .int .i64 0]) ∧ Below v.heap.size v w')) := by
    by_cases h0 : rdE st s = 0
    · right
      obtain ⟨a1, a2, a3⟩ := rd_ok h0
      rw [h0] at HR2
      refine ⟨rdN st s, HR2, fun v => ?_⟩
      have := Show_c st (rdN st s) v
      have e1 : shwT st (rdN st s) = s := by unfold shwT; rw [if_pos ⟨a1, a2⟩, a3]
      have e2 : shwE st (rdN st s) = 0 := by unfold shwE; rw [if_pos a1, if_pos a2]
      rw [e1, e2] at this
      exact this
    · left
      exact ⟨_, _, HR2, bne_iff_ne.2 h0⟩
  clear HS1 HS2 HS3 HR2 hE hs
  rcases key with ⟨T, HA, HB, U, f, HC, hf⟩ | ⟨T, U, e, f, HA, he, HC⟩
  · rcases hf with hf | ⟨rfl, hTU, hnm⟩ | ⟨rfl, hTU, hnm⟩
    all_goals
      go_enter Tryd.func4, Tryd.ntmps4
      go_wp2_with fail
      refine (HA.out _).mono ?_
      rintro e w1 ⟨rfl, h1⟩
      have H1 := hideO h1
      clear h1
      go_wp2_with fail
      refine (HC.out _).mono ?_
      rintro e w2 ⟨rfl, h2⟩
      have H2 := hideO (bthenO H1.out h2)
      clear h2
      go_wp2_with fail
      refine (HB.out _ H2.out).mono ?_
      rintro e w3 ⟨rfl, h3⟩
      have H3 := hideO (bthenO H2.out h3)
      clear h3
      go_wp2_with fail
      rcases key2 with ⟨k, h, HD, hh⟩ | ⟨k, HD, HF⟩
      · refine (HD.out _ H3.out).mono ?_
        rintro e w4 ⟨rfl, h4⟩
        have H4 := hideO (bthenO H3.out h4)
        clear h4
        go_wp2_with (go_at_call 10; refine (HBg.out _ H4.out).mono ?_; rintro e w5 ⟨rfl, hw5⟩)
        go_ret
        exact ⟨rfl, bthenO H4.out hw5⟩
      · refine (HD.out _ H3.out).mono ?_
        rintro e w4 ⟨rfl, h4⟩
        have H4 := hideO (bthenO H3.out h4)
        clear h4
        go_wp2_with fail
        refine (HF.out _).mono ?_
        rintro e w5 ⟨rfl, h5⟩
        have H5 := hideO (bthenO H4.out h5)
        clear h5
        go_wp2_with (go_at_call 10; refine (HBg.out _ H5.out).mono ?_; rintro e w6 ⟨rfl, hw6⟩)
        go_ret
        exact ⟨rfl, bthenO H5.out hw6⟩
  · go_enter Tryd.func4, Tryd.ntmps4
    go_wp2_with fail
    refine (HA.out _).mono ?_
    rintro e w1 ⟨rfl, h1⟩
    have H1 := hideO h1
    clear h1
    go_wp2_with fail
    refine (HC.out _).mono ?_
    rintro e w2 ⟨rfl, h2⟩
    have H3 := hideO (bthenO H1.out h2)
    clear h2
    go_wp2_with fail
    rcases key2 with ⟨k, h, HD, hh⟩ | ⟨k, HD, HF⟩
    · refine (HD.out _ H3.out).mono ?_
      rintro e w4 ⟨rfl, h4⟩
      have H4 := hideO (bthenO H3.out h4)
      clear h4
      go_wp2_with (go_at_call 10; refine (HBg.out _ H4.out).mono ?_; rintro e w5 ⟨rfl, hw5⟩)
      go_ret
      exact ⟨rfl, bthenO H4.out hw5⟩
    · refine (HD.out _ H3.out).mono ?_
      rintro e w4 ⟨rfl, h4⟩
      have H4 := hideO (bthenO H3.out h4)
      clear h4
      go_wp2_with fail
      refine (HF.out _).mono ?_
      rintro e w5 ⟨rfl, h5⟩
      have H5 := hideO (bthenO H4.out h5)
      clear h5
      go_wp2_with (go_at_call 10; refine (HBg.out _ H5.out).mono ?_; rintro e w6 ⟨rfl, hw6⟩)
      go_ret
      exact ⟨rfl, bthenO H5.out hw6⟩
end Go.Proofs.YtcdokhjmpkcpnafDoor
