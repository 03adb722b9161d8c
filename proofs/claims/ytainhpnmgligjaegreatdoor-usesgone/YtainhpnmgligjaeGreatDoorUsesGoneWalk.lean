/- The walk of the statement UsesGone: it returns true, and nothing that lay in memory has turned. -/
import Derived.Test.YtainhpnmgligjaeGreatDoorUsesKAll
import Derived.Test.YtainhpnmgligjaeGreatDoorUsesLAll
import Derived.Test.YtainhpnmgligjaeGreatDoorRulesM
namespace Go.Proofs.YtainhpnmgligjaeGreatDoor
open Go Go.RowKit Go.Maps
set_option linter.unusedVariables false

theorem uznL_len {D : Dt} {n : Nat} {us : Nat → Us} {m : ByteArray} {t : Int} (h : uznE D n us m t = 0) : (uznL D n us m t).length ≤ 1000 := by
  unfold uznL
  rw [if_pos h]
  have h1 : (srt (zlst D us n m t D.nz)).length = (zlst D us n m t D.nz).length := List.length_mergeSort _
  have h2 := zlst_len D us n m t D.nz
  have h3 := (chk_parts (uchk_ok (ucat_ok (uzn_ok h).1).1).1).1.2.1
  omega
theorem sl_end {b off n k c : Nat} (hc : n ≤ c) (hk : k < n) : n - (k + 1) = 0 ∨ (if c = k + 1 then some (⟨b, off, none⟩ : Addr) else some ⟨b, off + (k + 1) * 4, none⟩) = some ⟨b, off + (k + 1) * 4, none⟩ := by
  by_cases h : c = k + 1
  · exact .inl (by omega)
  · exact .inr (by rw [if_neg h])
theorem wrap_nu {n : Int} (h0 : 0 ≤ n) (h1 : n < 9223372036854775808) : IntKind.i64.wrap n = n := by
  have h64 : IntKind.i64.bits = 64 := rfl
  have hsg : IntKind.i64.signed = true := rfl
  unfold IntKind.wrap
  rw [h64, hsg]
  simp only [Bool.true_and]
  rw [Int.emod_eq_of_lt h0 (by omega)]
  simp
  omega
set_option maxRecDepth 100000 in
set_option maxHeartbeats 8000000 in
theorem UsesGone_w (D : Dt) (a : Option Addr) (n c : Nat) (us : Nat → Us) (s m : ByteArray) (t i : Int) (w : World) (hL : Laid w) (hM : Mx w) (hD : DAt w D) (hF : D.fits) (hn : n ≤ maxLen) (hc : n ≤ c) (hU : UAt w a n us) (hf : ∀ j, j < n → (us j).fits) (hs : s.size ≤ maxLen) (hm : m.size ≤ maxLen) (ht : -9223372036854775808 ≤ t ∧ t ≤ 9223372036854775807) (hi : -9223372036854775808 ≤ i ∧ i ≤ 9223372036854775807) :
    Calls Tryz.prog 5 #[D.v, .slice a n c, .string s, .string m, .int .i64 t, .int .i64 i] w fun e w' => e = .returned (.bool true) ∧ Below w.heap.size w w' := by
  have HL := hideH hL
  have HM := hideH hM
  have HU := hideH hU
  have HE : Hid (∀ v : World, Below w.heap.size w v → UEnv v D a n c us) := fun v h => ⟨⟨hL.on h, hM.on h, hD.on h⟩, hF, hn, hc, hU.on h, hf⟩
  have HEX : Hid (∀ (v : World) (a' : Option Addr) (n' c' : Nat) (us' : Nat → Us), Below w.heap.size w v → n' ≤ 10 → n' ≤ c' → UAt v a' n' us' → (∀ j, j < n' → (us' j).fits) → UEnv v D a' n' c' us') := fun v a' n' c' us' h h1 h2 h3 h4 => ⟨⟨hL.on h, hM.on h, hD.on h⟩, hF, by unfold maxLen; omega, h2, h3, h4⟩
  have HFU := hideH hf
  have HBg : Hid (∀ v : World, Below w.heap.size w v → Calls Tryz.prog 10 #[] v fun e w' => e = .returned (.bool true) ∧ Below v.heap.size v w') := fun v h => usesBegun_c v (HL.out.on h) (HM.out.on h)
  have HMe := hideH (fun v (hv : Below w.heap.size w v) => Meta_c D a n c us s t v (HE.out v hv) hs)
  have HZo := hideH (fun v (hv : Below w.heap.size w v) => Zones_c D a n c us m t v (HE.out v hv) hm)
  have HS := hideH hs
  have HMS := hideH hm
  have hnm := hn
  unfold maxLen at hnm
  obtain ⟨hi1, hi2⟩ := hi
  obtain ⟨ht1, ht2⟩ := ht
  clear hL hM hD hF hU hf hs hm hn
  go_enter Tryz.func5, Tryz.ntmps5
  have hb := hideH ((Below.refl _ w).alloc (Nat.le_refl _) (.cells #[.slice D.sa D.ns D.sc, .slice D.za D.nz D.zc, .slice D.la D.nl D.lc] 26))
  have hbx := hideH (World.alloc_heap_new w (.cells #[.slice D.sa D.ns D.sc, .slice D.za D.nz D.zc, .slice D.la D.nl D.lc] 26))
  go_wp2_with fail
  refine (HMe.out _ hb.out).mono ?_
  rintro e w1 ⟨rfl, hw1⟩
  have H1 := hideH (bthen hb.out hw1)
  have C1 := hideH (heap_on hbx.out hw1)
  clear hw1 hb hbx
  obtain ⟨z0, z1, z2⟩ := cells3 C1.out
  go_wp2_with fail
  clear z0 z1 z2
  refine (HZo.out _ H1.out).mono ?_
  rintro e w2 ⟨az, cz, rfl, -, htx, hw2⟩
  have H2 := hideH (bthen H1.out hw2)
  have C2 := hideH (heap_on C1.out hw2)
  have HTX := hideH htx
  clear hw2 htx H1 C1
  rcases beq_cases (umtE D n us s t) 0 with ⟨q1, q2⟩ | ⟨q1, q2⟩
  · rcases beq_cases (uznE D n us m t) 0 with ⟨r1, r2⟩ | ⟨r1, r2⟩
    · have Q2 := hideH q2
      have R2 := hideH r2
      have hok := uchk_ok (ucat_ok (umt_ok q2).1).1
      have hn10 := hok.2.1
      rw [q2, r2]
      clear q1 q2 r1 r2 hok
      by_cases hn0 : n = 0
      · have hni : ((n : Int) == 0) = true := by simp [hn0]
        subst hn0
        go_wp2_with fail
        refine (HBg.out _ H2.out).mono ?_
        rintro e w3 ⟨rfl, hw3⟩
        have H3 := hideH (bthen H2.out hw3)
        clear hw3
        go_wp2_with fail
        go_ret
        exact ⟨rfl, H3.out⟩
      · obtain ⟨k, hk, hkn⟩ : ∃ k : Nat, cho i n = k ∧ k < n := by
          have := cho_bd i n (by omega)
          exact ⟨(cho i n).toNat, by omega, by omega⟩
        have HCh : Hid (∀ v, Calls Tryz.prog 14 #[.int .i64 i, .int .i64 n] v fun e w' => e = .returned (.int .i64 k) ∧ w' = v) := fun v => by
          have := choose_any i n v (by omega) hi1 hi2
          rwa [hk] at this
        clear hk
        have hn1 : ¬ ((n : Int) = 0) := by omega
        have hn2 : ((n : Int) == 0) = false := by simp; omega
        go_wp2_with fail
        refine (HCh.out _).mono ?_
        rintro e w2 ⟨rfl, rfl⟩
        rcases HU.out.on H2.out with h0 | ⟨b, off, hsa, hcs⟩
        · omega
        obtain ⟨c0, c1, c2, c3⟩ := hcs k hkn
        clear hcs
        have hk0 : decide ((k : Int) < 0) = false := by simp
        have hkd : decide (n ≤ k) = false := by simp; omega
        have hki : (k : Int) < (n : Int) := by omega
        have hcase : ((us k).fr ≤ t ∧ t < (us k).to) ∨ (¬ (us k).fr ≤ t) ∨ ((us k).fr ≤ t ∧ ¬ t < (us k).to) := by omega
        have HP : Hid (UAt w2 (some ⟨b, off, none⟩) n us) := by rw [← hsa]; exact HU.out.on H2.out
        have hw1 : IntKind.i64.wrap ((k : Int) + 1) = (k : Int) + 1 := wrap_nu (by omega) (by omega)
        have hkc : (k : Int) ≤ (c : Int) := by omega
        have hs1 : ¬ ((k : Int) + 1 < 0) := by omega
        have hs2 : (k : Int) + 1 ≤ (n : Int) := by omega
        have hs3 : (k : Int) + 1 ≤ (c : Int) := by omega
        have hs4 : (n : Int) ≤ (c : Int) := by omega
        have hs5 : ¬ ((n : Int) < (k : Int) + 1) := by omega
        have hs6 : (0 : Int) ≤ (k : Int) + 1 := by omega
        rcases hcase with ⟨hfr, hto⟩ | hcase
        · go_wp2_with fail
          refine (HBg.out _ H2.out).mono ?_
          rintro e w3 ⟨rfl, hw3⟩
          have H3 := hideH (bthen H2.out hw3)
          clear hw3
          go_wp2_with fail
          go_ret
          exact ⟨rfl, H3.out⟩
        · have HLS := hideH (les_same (s := s) (m := m) (t := t) hkn (by omega) Q2.out R2.out)
          rcases hcase with hfr | ⟨hfr, hto⟩
          all_goals
            go_wp2_with fail
            clear c0 c1 c2 c3
            go_region_held_law (fun v => True) (trivial)
              (first
                | (refine gone_app1 us b off n k _ w2 _ rfl _ _ rfl _ rfl rfl (by first | exact ((Below.refl _ w2).alloc (Nat.le_refl _) _).drew | exact ((Below.refl _ w2).alloc (Nat.le_refl _) _)) (by exact World.alloc_heap_new w2 _) (Nat.le_refl _) HP.out hkn hn10 ?_; intro v1 w3 O1 B1)
                | (refine gone_app2 us b off n k _ _ _ w2 _ rfl _ _ rfl _ rfl rfl rfl (sl_end hc hkn) (by first | exact B1.out | exact B1.out.drew) (by first | exact O1.out | exact own_on O1.out (Below.refl _ w3).drew) HP.out hkn hn10 ?_; intro a4 c4 w4 hc4 U4 B4))
            all_goals
              have H4 := hideH (bthen H2.out B4.out)
              have C4 := hideH (heap_on C2.out B4.out)
              have T4 := hideH (HTX.out.on B4.out)
              have E4 : Hid (UEnv w4 D a4 (n - 1) c4 (lesU us k)) := HEX.out w4 a4 (n - 1) c4 _ H4.out (by omega) hc4 U4.out (fun j hj => by obtain ⟨i, hi, e⟩ := les_in (us := us) hkn hj; rw [e]; exact HFU.out i hi)
              have HMe2 : Hid (∀ v, Below w4.heap.size w4 v → Calls Tryz.prog 6 #[D.v, .slice a4 (n - 1) c4, .string s, .int .i64 t] v fun e w' => e = .returned (.tuple #[.string (umtR D n us s t), .int .i64 0]) ∧ Below v.heap.size v w') := fun v hv => by
                have := Meta_c D a4 (n - 1) c4 (lesU us k) s t v (E4.out.on hv) HS.out
                rwa [HLS.out.1, HLS.out.2.1] at this
              have HZo2 : Hid (∀ v, Below w4.heap.size w4 v → Calls Tryz.prog 7 #[D.v, .slice a4 (n - 1) c4, .string m, .int .i64 t] v fun e w' => uznP (uznL D n us m t) 0 v e w') := fun v hv => by
                have := Zones_c D a4 (n - 1) c4 (lesU us k) m t v (E4.out.on hv) HMS.out
                rwa [HLS.out.2.2.1, HLS.out.2.2.2] at this
              have HLN := hideH (uznL_len (n := n) (us := us) (m := m) (t := t) R2.out)
              generalize umtR D n us s t = mr at HMe2 ⊢
              generalize uznL D n us m t = zl at HZo2 HLN T4 ⊢
              clear HLS E4 U4 HTX HMe HZo HP O1 B1 B4 H2 C2 hw1 hkc hs1 hs2 hs3 hs4 hs5 hs6 hk0 hkd hki hn1 hn2
              generalize (if c = k + 1 then some (⟨b, off, none⟩ : Addr) else some ⟨b, off + (k + 1) * 4, none⟩) = AO
              obtain ⟨z0, z1, z2⟩ := cells3 C4.out
              go_wp2_with fail
              clear z0 z1 z2
              refine (HMe2.out _ (Below.refl _ _)).mono ?_
              rintro e w5 ⟨rfl, hw5⟩
              have H5 := hideH (bthen H4.out hw5)
              have C5 := hideH (heap_on C4.out hw5)
              have T5 := hideH (T4.out.on hw5)
              have W5 := hideH hw5
              clear hw5 C4 T4
              obtain ⟨z0, z1, z2⟩ := cells3 C5.out
              go_wp2_with fail
              clear z0 z1 z2
              refine (HZo2.out _ W5.out).mono ?_
              rintro e w6 ⟨az2, cz2, rfl, -, htx2, hw6⟩
              have H6 := hideH (bthen H5.out hw6)
              have T6 := hideH (T5.out.on hw6)
              have X6 := hideH htx2
              clear hw6 htx2 T5 C5 W5
              go_wp2_with fail
              refine (HBg.out _ H6.out).mono ?_
              rintro e w7 ⟨rfl, hw7⟩
              have H7 := hideH (bthen H6.out hw7)
              have T7 := hideH (T6.out.on hw7)
              have X7 := hideH (X6.out.on hw7)
              clear hw7 T6 X6
              go_wp2_with fail
              refine (SameTexts_c az az2 cz cz2 zl zl _ T7.out X7.out HLN.out HLN.out).mono ?_
              rintro e w8 ⟨rfl, hw8⟩
              have H8 := hideH (bthen H7.out hw8)
              clear hw8
              go_wp2_with fail
              go_ret
              exact ⟨ret_bool (by simp), H8.out⟩
    · have hne : (uznE D n us m t != 0) = true := by rw [bne_iff_ne]; exact r2
      rw [q2]
      clear q1 q2 r1 r2
      go_wp2_with fail
      refine (HBg.out _ H2.out).mono ?_
      rintro e w3 ⟨rfl, hw3⟩
      have H3 := hideH (bthen H2.out hw3)
      clear hw3
      go_wp2_with fail
      go_ret
      exact ⟨rfl, H3.out⟩
  · have hne : (umtE D n us s t != 0) = true := by rw [bne_iff_ne]; exact q2
    clear q1 q2
    go_wp2_with fail
    refine (HBg.out _ H2.out).mono ?_
    rintro e w3 ⟨rfl, hw3⟩
    have H3 := hideH (bthen H2.out hw3)
    clear hw3
    go_wp2_with fail
    go_ret
    exact ⟨rfl, H3.out⟩
end Go.Proofs.YtainhpnmgligjaeGreatDoor
