/- The walk of the statement TrieMore. -/
import Derived.Test.YthkdjklpegmnnaaTrieP
import Derived.SizedLaws
namespace Go.Proofs.Ythkdjklpegmnnaa.Tri
open Go Go.RowKit Go.Maps
set_option linter.unusedVariables false

theorem ext_take (s : ByteArray) {n : Nat} (h : n ≤ s.size) : (s.extract 0 n).data.toList = s.data.toList.take n := by simp
set_option maxRecDepth 100000 in
set_option maxHeartbeats 8000000 in
theorem TrieMore_w (a : Option Addr) (n c : Nat) (ss : Nat → ByteArray) (s b : ByteArray) (w : World) (hn : n ≤ maxLen) (hP : TxA w a n ss) (hf : ∀ j, j < n → (ss j).size ≤ maxLen) (hsz : s.size ≤ reachBytes) (hbz : b.size ≤ reachBytes) :
    Calls Try.prog 7 #[.slice a n c, .string s, .string b] w fun e w' => e = .returned (.bool true) ∧ Below w.heap.size w w' := by
  have hsb : s.size + b.size ≤ maxLen := by have := reachBytes_lt; unfold maxLen; omega
  clear hsz hbz
  have HBg := hideH (fun v => trieBegun_c v)
  have HP := hideH hP
  by_cases h0 : bldE n ss = 0
  · have HB := hideH (Build_ok a n c ss w hn hP hf h0)
    have HFit := hideH (bld_fitT h0)
    have f := long_facts h0 s
    have HL1 := hideH (fun ta tc v (h : TrL v ta (trI n ss)) => Longest_c ta tc (trI n ss) s v (by omega) HFit.out h)
    have HL2 := hideH (fun ta tc v (h : TrL v ta (trI n ss)) => Longest_c ta tc (trI n ss) (s ++ b) v (by rw [app_size]; exact hsb) HFit.out h)
    have HL3 := hideH (fun ta tc v (h : TrL v ta (trI n ss)) => Longest_c ta tc (trI n ss) (s.extract 0 (longR (trI n ss) s).2) v (by have := f.le; simp; omega) HFit.out h)
    have hck := tchk_yes (bld_okT h0)
    have hmono := long_mono h0 s b
    rw [hck] at HL1 HL2 HL3
    rw [long_self h0 s (s.extract 0 (longR (trI n ss) s).2) (ext_take s f.le)] at HL3
    have hn40 := (bldE_zero h0).1
    have HW12 : Hid (∀ j, j < n → (ss j).size ≤ 12) := fun j hj => (okW_sz ((bldE_zero h0).2 j hj)).2
    have hLen := trI_len n ss
    have hl1 := f.le
    have hl2 := f.iff
    have hl3 := f.ge
    have HSz := hideH (sz_bd (wl n ss))
    have HSS : Hid (∀ k, k < n → sz (wl n ss) (k + 1) = sz (wl n ss) k + (ss k).size) := fun k hk => by
      show sz (wl n ss) k + (wo (wl n ss) k).length = _
      rw [wo_wl hk, sz_len]
    have HS0 : Hid (sz (wl n ss) 0 = 1) := rfl
    have HSb : Hid (∀ k, k ≤ n → sz (wl n ss) k ≤ 1000) := fun k hk => by
      have := HSz.out k (fun j hj => by rw [wo_wl (by omega), sz_len]; exact HW12.out j (by omega))
      show _ ≤ _
      omega
    generalize sz (wl n ss) = szf at *
    generalize (longR (trI n ss) (s ++ b)).1 = j2 at *
    generalize (longR (trI n ss) (s ++ b)).2 = n2 at *
    obtain ⟨n1, hn1⟩ : ∃ n1, n1 = (longR (trI n ss) s).2 := ⟨_, rfl⟩
    obtain ⟨j1, hj1⟩ : ∃ j1, j1 = (longR (trI n ss) s).1 := ⟨_, rfl⟩
    rw [← hn1, ← hj1] at HL3 HL1
    rw [← hn1] at hmono hl1
    rw [← hn1, ← hj1] at hl2
    rw [← hj1] at hl3
    clear hn1 hj1 f hP hf hn hck h0 HSz HFit
    generalize trI n ss = t at *
    unfold maxLen at hsb
    have n3 : (9223372036854775807 < s.size + b.size) = False := eq_false (by omega)
    go_enter Try.func7, Try.ntmps7
    go_wp2_with fail
    refine HB.out.mono ?_
    rintro e w1 ⟨ta, tc, rfl, htr, hw1⟩
    have R1 := hideH htr
    have H1 := hideH hw1
    clear htr hw1
    go_wp2_with fail
    refine (HL1.out _ _ _ R1.out).mono ?_
    rintro e w2 ⟨rfl, hw2⟩
    have R2 := hideH (R1.out.on hw2)
    have H2 := hideH (bthen H1.out hw2)
    clear hw2 R1 H1
    go_wp2_with fail
    refine (HL2.out _ _ _ R2.out).mono ?_
    rintro e w3 ⟨rfl, hw3⟩
    have R3 := hideH (R2.out.on hw3)
    have H3 := hideH (bthen H2.out hw3)
    clear hw3 R2 H2
    have q1 : ¬ ((n1 : Int) < 0) := by omega
    have q2 : ¬ ((s.size : Int) < (n1 : Int)) := by omega
    have q3 : ¬ ((n2 : Int) < (n1 : Int)) := by omega
    have q4 : (n1 : Int) ≤ (s.size : Int) := by omega
    go_wp2_with fail
    refine (HL3.out _ _ _ R3.out).mono ?_
    rintro e w4 ⟨rfl, hw4⟩
    have H4 := hideH (bthen H3.out hw4)
    clear hw4 R3 H3
    go_wp2_with fail
    go_loopw [18, 19] (fun x18 x19 v => ∃ k : Nat, k ≤ n ∧ x18 = .int .i64 (szf k) ∧ x19 = .int .i64 k ∧ Hid (Below w.heap.size w v)) (fun _ x19 _ => n - (intOf x19).toNat)
    case atStart => exact ⟨0, Nat.zero_le _, by rw [HS0.out]; rfl, rfl, H4⟩
    case round =>
      obtain ⟨k, hk, rfl, rfl, HW⟩ := hrel
      have hb1 := HSb.out k hk
      by_cases hlt : k < n
      · rcases HP.out.on HW.out with h0 | ⟨bb, off, hsa, hcs⟩
        · omega
        have d0 := hcs k hlt
        have h12 := HW12.out k hlt
        clear hcs
        have hki : (k : Int) < (n : Int) := by omega
        have HX := hideH (HSS.out k hlt)
        go_wp2_with fail
        try simp only [← hsa]
        go_roundw
        case rel => exact ⟨k + 1, by omega, by rw [HX.out]; go_num, by go_num, HW⟩
        case measure => simp [intOf]; omega
      · obtain rfl : k = n := by omega
        have hki : ¬ ((k : Int) < (k : Int)) := by omega
        have q5 : (t.length : Int) ≤ (szf k : Int) := by omega
        by_cases hz : n1 = 0
        · subst hz
          have q6 : ¬ (0 ≤ j1) := by have := hl2.2 rfl; omega
          clear hl2
          go_wp2_with fail
          refine (HBg.out _).mono ?_
          rintro e w5 ⟨rfl, hw5⟩
          go_wp2_with fail
          go_ret
          exact ⟨ret_bool (by first | (simp; done) | (simp; omega)), bthen HW.out hw5⟩
        · have q6 : 0 ≤ j1 := by
            rcases Int.lt_or_le j1 0 with h | h
            · exact absurd (hl2.1 (by omega)) hz
            · exact h
          have q7 : (0 : Int) < (n1 : Int) := by omega
          clear hl2
          go_wp2_with fail
          refine (HBg.out _).mono ?_
          rintro e w5 ⟨rfl, hw5⟩
          go_wp2_with fail
          go_ret
          exact ⟨ret_bool (by first | (simp; done) | (simp; omega)), bthen HW.out hw5⟩
  · have HB := hideH (Build_no a n c ss w hn hP hf h0)
    have hne : (bldE n ss != 0) = true := by rw [bne_iff_ne]; exact h0
    generalize bldE n ss = be at *
    clear h0 hP hf hn
    go_enter Try.func7, Try.ntmps7
    go_wp2_with fail
    refine HB.out.mono ?_
    rintro e w1 ⟨rfl, hw1⟩
    have H1 := hideH hw1
    clear hw1
    go_wp2_with fail
    refine (HBg.out _).mono ?_
    rintro e w2 ⟨rfl, hw2⟩
    go_wp2_with fail
    go_ret
    exact ⟨rfl, bthen H1.out hw2⟩
end Go.Proofs.Ythkdjklpegmnnaa.Tri
