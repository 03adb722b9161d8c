/- The document's own answers on offsets: OffFrom. -/
import Derived.Test.YtcdokhjmpkcpnafDoorOffsE
namespace Go.Proofs.YtcdokhjmpkcpnafDoor
open Go Go.RowKit
set_option linter.unusedVariables false

theorem sh_len10 {st n : Int} (h : Ofs.isSt st = true) : (Ofs.sh st n).length ≤ 10 := by
  unfold Ofs.sh Ofs.shF
  have h1 := clk_len (Ofs.bb st) (Ofs.brB st) (n.natAbs / 3600) (n.natAbs % 3600 / 60)
  have h2 := bb_len st
  have h3 := aa_len st
  split
  · rcases Ofs.st_cases h with rfl | rfl | rfl | rfl <;> decide
  · simp only [List.length_append, List.length_cons, List.length_nil]
    omega
theorem off_step (k : Nat) (h : k ≤ 1920) : Ofs.offB (-57600 + 60 * (k : Int)) = true := by
  unfold Ofs.offB
  simp only [decide_eq_true_eq]
  refine ⟨by omega, by omega, ?_⟩
  have : (60 : Int) ∣ (-57600 + 60 * (k : Int)) := ⟨-960 + k, by omega⟩
  exact Int.tmod_eq_zero_of_dvd this
theorem off_is {n : Int} (h : Ofs.offB n = true) : ∃ k : Nat, k ≤ 1920 ∧ n = -57600 + 60 * (k : Int) := by
  unfold Ofs.offB at h
  simp only [decide_eq_true_eq] at h
  obtain ⟨h1, h2, h3⟩ := h
  obtain ⟨c, hc⟩ := Int.dvd_of_tmod_eq_zero h3
  exact ⟨(960 + c).toNat, by omega, by omega⟩
set_option maxRecDepth 100000 in
set_option maxHeartbeats 8000000 in
theorem OffFrom_c (st : Int) (s : List UInt8) (hlen : s.length ≤ 9223372036854775807) (w : World) : Calls Tryd.prog 9 #[.int .i64 st, .string ⟨s.toArray⟩] w fun e w' => e = .returned (.tuple #[.int .i64 (rdN st s), .int .i64 (rdE st s)]) ∧ Below w.heap.size w w' := by
  have HW := hideO (fun a b c v => within_o a b c v)
  cases hs : Ofs.isSt st
  · have HT := hideO (rd_kind (s := s) hs)
    have hin : inO st 1 4 = false := hs
    clear hs
    go_enter Tryd.func9, Tryd.ntmps9
    go_wp2_with (go_at_call 15; refine (HW.out _ _ _ _).mono ?_; rintro e w1 ⟨rfl, rfl⟩)
    go_ret2
    exact ⟨by rw [HT.out.1, HT.out.2]; rfl, Below.refl _ _⟩
  · have hin : inO st 1 4 = true := hs
    by_cases hl : 10 < s.length
    · have HT := hideO (rd_no (s := s) hs (fun n _ e => by have := sh_len10 (n := n) hs; rw [e] at this; omega))
      have hl2 : (10 : Int) < (s.length : Int) := by omega
      clear hs
      go_enter Tryd.func9, Tryd.ntmps9
      go_wp2_with (go_at_call 15; refine (HW.out _ _ _ _).mono ?_; rintro e w1 ⟨rfl, rfl⟩)
      go_ret2
      exact ⟨by rw [HT.out.1, HT.out.2]; rfl, Below.refl _ _⟩
    · have hl2 : (s.length : Int) ≤ 10 := by omega
      have HO := hideO (fun k v => OffText_c st (-57600 + 60 * ((k : Nat) : Int)) v)
      have HS := hideO hs
      clear hs
      go_enter Tryd.func9, Tryd.ntmps9
      go_wp2_with (go_at_call 15; refine (HW.out _ _ _ _).mono ?_; rintro e w1 ⟨rfl, rfl⟩)
      go_loopw [6] (fun x6 v => ∃ k : Nat, k ≤ 1921 ∧ x6 = .int .i64 (-57600 + 60 * (k : Int)) ∧ Hid (Below w1.heap.size w1 v) ∧ Hid (∀ j : Nat, j < k → Ofs.sh st (-57600 + 60 * (j : Int)) ≠ s)) (fun x6 _ => (57660 - intOf x6).toNat)
      case atStart => exact ⟨0, by omega, rfl, Below.refl _ _, fun j hj => by omega⟩
      case round =>
        obtain ⟨k, hk, rfl, HW2, HA⟩ := hrel
        by_cases hlt : k ≤ 1920
        · have ho := off_step k hlt
          have HC := hideO (HO.out k)
          rw [(shw_y HS.out ho).1, (shw_y HS.out ho).2] at HC
          have hle : (-57600 + 60 * (k : Int)) ≤ 57600 := by omega
          by_cases he : Ofs.sh st (-57600 + 60 * (k : Int)) = s
          · have HT := hideO (rd_show HS.out ho)
            rw [he] at HT HC
            clear ho he
            go_wp2_with (go_at_call 8; refine (HC.out _).mono ?_; rintro e w2 ⟨rfl, hw2⟩)
            go_ret2
            exact ⟨by rw [HT.out.1, HT.out.2]; rfl, bthenO HW2.out hw2⟩
          · have HA2 : Hid (∀ j : Nat, j < k + 1 → Ofs.sh st (-57600 + 60 * (j : Int)) ≠ s) := fun j hj => by
              rcases Nat.lt_or_ge j k with h | h
              · exact HA.out j h
              · obtain rfl : j = k := by omega
                exact he
            have hq : (Ofs.sh st (-57600 + 60 * (k : Int)) == s) = false := beq_eq_false_iff_ne.2 he
            clear ho he
            generalize Ofs.sh st (-57600 + 60 * (k : Int)) = u at HC hq
            go_wp2_with (go_at_call 8; refine (HC.out _).mono ?_; rintro e w2 ⟨rfl, hw2⟩)
            have H2 := hideO (bthenO HW2.out hw2)
            clear hw2
            go_roundw
            case rel => exact ⟨k + 1, by omega, by go_num, H2, HA2⟩
            case measure => simp [intOf]; omega
        · obtain rfl : k = 1921 := by omega
          have HT := hideO (rd_no (s := s) HS.out (fun n hn e => by
            obtain ⟨j, hj, rfl⟩ := off_is hn
            exact HA.out j (by omega) e))
          go_wp2_with fail
          go_ret2
          exact ⟨by rw [HT.out.1, HT.out.2]; rfl, HW2.out⟩
end Go.Proofs.YtcdokhjmpkcpnafDoor
