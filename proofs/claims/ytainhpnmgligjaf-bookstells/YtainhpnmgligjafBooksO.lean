/- The document's own CheckBooks: names, and how long texts are. -/
import Derived.Test.YtainhpnmgligjafBooksN
import Derived.Test.YtainhpnmgligjafRefE
namespace Go.Proofs.Ytainhpnmgligjaf
open Go Go.RowKit Go.Maps
set_option linter.unusedVariables false

theorem prB_no {k t : ByteArray} (h : nameB k = false ∨ 12 < t.size) : prB k t = false := by
  unfold prB
  rcases h with h | h
  · rw [h]; rfl
  · rw [decide_eq_false (by omega)]; simp
theorem prB_yes {k t : ByteArray} (h : nameB k = true) (h2 : ¬ 12 < t.size) : prB k t = true := by
  unfold prB
  rw [h, decide_eq_true (by omega)]; rfl
set_option maxRecDepth 1000000 in
def CB4 (bs : Nat → Bk) (a : Option Addr) (n c : Nat) (w : World) (V : Int) : Prop := ∀ (W : World) (a3 : Option Addr) (q3 : Nat) (u1 u2 u4 u5 u6 u7 u8 u9 u10 u11 u12 u13 u14 u15 u16 u17 u18 u19 u20 u21 u22 u23 u24 u25 u26 u27 u28 u29 u30 u31 u32 u33 u34 u35 u36 u37 u38 u39 u40 u41 u42 u43 u44 u45 u46 u47 u48 u49 u50 u51 u52 u53 u54 u55 u56 u57 u58 u59 u60 u61 u62 u63 u64 u65 u66 u67 u68 u69 u70 u71 u72 u73 u74 u75 u76 u77 u78 u79 u80 u81 u82 u83 u84 u85 u86 u87 u88 u89 u90 u91 u92 u93 u94 u95 u96 u97 u98 u99 u100 u101 u102 u103 u104 u105 u106 u107 u108 u109 u110 u111 u112 u113 u114 u115 u116 u117 u118 u119 u120 u121 u122 u123 u124 u125 u126 u127 u128 u129 u130 u131 u132 u133 : Value), Hid (Below w.heap.size w W) → Hid (P1 W a3 n (fun j => .string (bs j).lc)) → Code.wp Try.prog (ctl 5 (Try.f9.body.getD .skip)) (bodyPost Try.prog Try.f9 fun e w' => e = .returned (.int .i64 V) ∧ Below w.heap.size w w') ⟨#[.slice a n c, u1, u2, .slice a3 n q3, u4, u5, u6, u7, u8, u9, u10, u11, u12, u13, u14, u15, u16, u17, u18, u19, u20, u21, u22, u23, u24, u25, u26, u27, u28, u29, u30, u31, u32, u33, u34, u35, u36, u37, u38, u39, u40, u41, u42, u43, u44, u45, u46, u47, u48, u49, u50, u51, u52, u53, u54, u55, u56, u57, u58, u59, u60, u61, u62, u63, u64, u65, u66, u67, u68, u69, u70, u71, u72, u73, u74, u75, u76, u77, u78, u79, u80, u81, u82, u83, u84, u85, u86, u87, u88, u89, u90, u91, u92, u93, u94, u95, u96, u97, u98, u99, u100, u101, u102, u103, u104, u105, u106, u107, u108, u109, u110, u111, u112, u113, u114, u115, u116, u117, u118, u119, u120, u121, u122, u123, u124, u125, u126, u127, u128, u129, u130, u131, u132, u133], []⟩ W
set_option maxRecDepth 1000000 in
set_option maxHeartbeats 4000000 in
theorem cb3 {a : Option Addr} {n c : Nat} {bs : Nat → Bk} {w W : World} {V : Int} {a3 : Option Addr} {q3 : Nat} {u1 u2 u4 u5 u6 u7 u8 u9 u10 u11 u12 u13 u14 u15 u16 u17 u18 u19 u20 u21 u22 u23 u24 u25 u26 u27 u28 u29 u30 u31 u32 u33 u34 u35 u36 u37 u38 u39 u40 u41 u42 u43 u44 u45 u46 u47 u48 u49 u50 u51 u52 u53 u54 u55 u56 u57 u58 u59 u60 u61 u62 u63 u64 u65 u66 u67 u68 u69 u70 u71 u72 u73 u74 u75 u76 u77 u78 u79 u80 u81 u82 u83 u84 u85 u86 u87 u88 u89 u90 u91 u92 u93 u94 u95 u96 u97 u98 u99 u100 u101 u102 u103 u104 u105 u106 u107 u108 u109 u110 u111 u112 u113 u114 u115 u116 u117 u118 u119 u120 u121 u122 u123 u124 u125 u126 u127 u128 u129 u130 u131 u132 u133 : Value} (h4 : n ≤ 4) (HP : Hid (BAt w a n bs)) (HF : Hid (∀ j, j < n → (bs j).fits)) (HE : Hid (∀ j, j < n → (bs j).n ≤ 8)) (HW : Hid (Below w.heap.size w W)) (R3 : Hid (P1 W a3 n (fun j => .string (bs j).lc))) (H4 : Hid ((∀ j, j < n → namB (bs j) = true) → CB4 bs a n c w V)) (HV5 : Hid (¬ (∀ j, j < n → namB (bs j) = true) → V = 5)) :
    Code.wp Try.prog (ctl 4 (Try.f9.body.getD .skip)) (bodyPost Try.prog Try.f9 fun e w' => e = .returned (.int .i64 V) ∧ Below w.heap.size w w') ⟨#[.slice a n c, u1, u2, .slice a3 n q3, u4, u5, u6, u7, u8, u9, u10, u11, u12, u13, u14, u15, u16, u17, u18, u19, u20, u21, u22, u23, u24, u25, u26, u27, u28, u29, u30, u31, u32, u33, u34, u35, u36, u37, u38, u39, u40, u41, u42, u43, u44, u45, u46, u47, u48, u49, u50, u51, u52, u53, u54, u55, u56, u57, u58, u59, u60, u61, u62, u63, u64, u65, u66, u67, u68, u69, u70, u71, u72, u73, u74, u75, u76, u77, u78, u79, u80, u81, u82, u83, u84, u85, u86, u87, u88, u89, u90, u91, u92, u93, u94, u95, u96, u97, u98, u99, u100, u101, u102, u103, u104, u105, u106, u107, u108, u109, u110, u111, u112, u113, u114, u115, u116, u117, u118, u119, u120, u121, u122, u123, u124, u125, u126, u127, u128, u129, u130, u131, u132, u133], []⟩ W := by
  conv => arg 2; whnf
  go_wp2_with fail
  go_loop [5] (fun x5 => ∃ k : Nat, k ≤ n ∧ x5 = .int .i64 k ∧ Hid (∀ j, j < k → namB (bs j) = true)) (fun x5 => n - (intOf x5).toNat)
  case atStart => exact ⟨0, Nat.zero_le _, rfl, fun j hj => by omega⟩
  case round =>
    obtain ⟨k, hk, rfl, HA⟩ := hrel
    by_cases hlt : k < n
    · rcases (HP.out.on HW.out).rows with h0 | ⟨b, off, hsa, hcs⟩
      · omega
      obtain ⟨c0, c1, c2⟩ := hcs k hlt
      have hk0 : decide ((k : Int) < 0) = false := by simp
      have hkn : decide (n ≤ k) = false := by simp; omega
      have hki : (k : Int) < (n : Int) := by omega
      have hn8 := HE.out k hlt
      have HN := hideH (RIsName_c (bs k).lc W (HF.out k hlt).lc)
      have C2 := hideH c2
      subst hsa
      clear hcs c1 c2
      cases hq : nameB (bs k).lc
      · rw [hq] at HN
        have HX : Hid (V = 5) := HV5.out (fun h => by have := h k hlt; unfold namB at this; rw [hq] at this; cases this)
        clear hq
        go_wp2_with fail
        refine HN.out.mono ?_
        rintro e W ⟨rfl, rfl⟩
        go_wp2_with fail
        go_ret
        exact ⟨ret_int HX.out.symm, HW.out⟩
      · rw [hq] at HN
        have HQ := hideH hq
        clear hq
        go_wp2_with fail
        refine HN.out.mono ?_
        rintro e W ⟨rfl, rfl⟩
        go_wp2_with fail
        clear c0
        go_loop [6] (fun x6 => ∃ i : Nat, i ≤ (bs k).n ∧ x6 = .int .i64 i ∧ Hid (∀ t, t < i → prB ((bs k).ks t) ((bs k).ts t) = true)) (fun x6 => (bs k).n - (intOf x6).toNat)
        case atStart => exact ⟨0, Nat.zero_le _, rfl, fun t ht => by omega⟩
        case round =>
          obtain ⟨i, hi, rfl, HB⟩ := hrel
          have c2 := C2.out
          by_cases hil : i < (bs k).n
          · rcases (HP.out.on HW.out).prs k hlt with h0 | ⟨b2, off2, hsb, hcs2⟩
            · omega
            obtain ⟨d0, d1⟩ := hcs2 i hil
            have c3 : W.cell? ⟨b, off + k * 3 + 2, none⟩ = some (.slice (some ⟨b2, off2, none⟩) (bs k).n (bs k).c) := by rw [← hsb]; exact c2
            have hi0 : decide ((i : Int) < 0) = false := by simp
            have hin : decide ((bs k).n ≤ i) = false := by simp; omega
            have hii : (i : Int) < ((bs k).n : Int) := by omega
            have HM := hideH (RIsName_c ((bs k).ks i) W ((HF.out k hlt).ks i hil))
            have htm := (HF.out k hlt).ts i hil
            unfold maxLen at htm
            clear hcs2 c2 hsb
            cases hq : nameB ((bs k).ks i)
            · rw [hq] at HM
              have HX : Hid (V = 5) := HV5.out (fun h => by
                have := h k hlt
                unfold namB at this
                rw [Bool.and_eq_true] at this
                have := of_decide_eq_true this.2 i hil
                rw [prB_no (.inl hq)] at this; cases this)
              clear hq
              go_wp2_with fail
              refine HM.out.mono ?_
              rintro e W ⟨rfl, rfl⟩
              go_wp2_with fail
              go_ret
              exact ⟨ret_int HX.out.symm, HW.out⟩
            · rw [hq] at HM
              by_cases htl : 12 < ((bs k).ts i).size
              · have HX : Hid (V = 5) := HV5.out (fun h => by
                  have := h k hlt
                  unfold namB at this
                  rw [Bool.and_eq_true] at this
                  have := of_decide_eq_true this.2 i hil
                  rw [prB_no (.inr htl)] at this; cases this)
                clear hq
                go_wp2_with fail
                refine HM.out.mono ?_
                rintro e W ⟨rfl, rfl⟩
                go_wp2_with fail
                go_ret
                exact ⟨ret_int HX.out.symm, HW.out⟩
              · have HB2 : Hid (∀ t, t < i + 1 → prB ((bs k).ks t) ((bs k).ts t) = true) := fun t ht => by
                  rcases Nat.lt_or_ge t i with h | h
                  · exact HB.out t h
                  · obtain rfl : t = i := by omega
                    exact prB_yes hq htl
                clear hq
                go_wp2_with fail
                refine HM.out.mono ?_
                rintro e W ⟨rfl, rfl⟩
                go_wp2_with fail
                go_round
                case rel => exact ⟨i + 1, by omega, by go_num, HB2⟩
                case measure => simp [intOf]; omega
          · have HA2 : Hid (∀ j, j < k + 1 → namB (bs j) = true) := fun j hj => by
              rcases Nat.lt_or_ge j k with h | h
              · exact HA.out j h
              · obtain rfl : j = k := by omega
                unfold namB
                rw [HQ.out, decide_eq_true (show prsOK (bs j) from fun p hp => HB.out p (by omega))]; rfl
            go_wp2_with fail
            exact ⟨⟨k + 1, by omega, by first | omega | go_num, HA2⟩, by simp [intOf]; omega⟩
    · have H := hideH (H4.out (fun j hj => HA.out j (by omega)))
      rename ∀ (a : Act) (w : World), _ → _ => hcont
      have HCONT := hideH hcont
      clear hcont
      go_wp2_with fail
      refine HCONT.out _ _ ?_
      exact H.out W a3 q3 _ _ _ _ _ _ _ _ _ _ _ _ _ _ _ _ _ _ _ _ _ _ _ _ _ _ _ _ _ _ _ _ _ _ _ _ _ _ _ _ _ _ _ _ _ _ _ _ _ _ _ _ _ _ _ _ _ _ _ _ _ _ _ _ _ _ _ _ _ _ _ _ _ _ _ _ _ _ _ _ _ _ _ _ _ _ _ _ _ _ _ _ _ _ _ _ _ _ _ _ _ _ _ _ _ _ _ _ _ _ _ _ _ _ _ _ _ _ _ _ _ _ _ _ _ _ _ _ _ _ _ _ HW R3
end Go.Proofs.Ytainhpnmgligjaf
