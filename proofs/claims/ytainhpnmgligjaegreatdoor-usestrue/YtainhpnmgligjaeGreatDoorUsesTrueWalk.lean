/- The walk of the statement UsesTrue: it returns true, and nothing that lay in memory has turned. -/
import Derived.Test.YtainhpnmgligjaeGreatDoorUsesKAll
import Derived.Test.YtainhpnmgligjaeGreatDoorUsesPAll
import Derived.Test.YtainhpnmgligjaeGreatDoorRulesM
import Derived.Deep.RegionHeld3
import Derived.Laws.Cover1
namespace Go.Proofs.YtainhpnmgligjaeGreatDoor
open Go Go.RowKit Go.Maps
set_option linter.unusedVariables false

theorem uznL_lenT {D : Dt} {n : Nat} {us : Nat → Us} {m : ByteArray} {t : Int} (h : uznE D n us m t = 0) : (uznL D n us m t).length ≤ 1000 := by
  unfold uznL
  rw [if_pos h]
  have h1 : (srt (zlst D us n m t D.nz)).length = (zlst D us n m t D.nz).length := List.length_mergeSort _
  have h2 := zlst_len D us n m t D.nz
  have h3 := (chk_parts (uchk_ok (ucat_ok (uzn_ok h).1).1).1).1.2.1
  omega
theorem meta_own {D : Dt} {n : Nat} {us : Nat → Us} {m : ByteArray} {t : Int} (h : uznE D n us m t = 0) {k : Nat} (hk : k < D.nz) : umtE D n us (D.zs k).nm t = 0 ∧ umtR D n us (D.zs k).nm t = metR us n (D.zs k).nm t := by
  have h1 := (uzn_ok h).1
  have hc := (uchk_ok (ucat_ok h1).1).1
  obtain ⟨z1, z2⟩ := zone_told hc hk
  have e : umtE D n us (D.zs k).nm t = 0 := by unfold umtE; rw [if_pos h1]; exact z2
  refine ⟨e, ?_⟩
  unfold umtR
  rw [if_pos e, z1]
  rfl
theorem wrap_nuT {n : Int} (h0 : 0 ≤ n) (h1 : n < 9223372036854775808) : IntKind.i64.wrap n = n := by
  have h64 : IntKind.i64.bits = 64 := rfl
  have hsg : IntKind.i64.signed = true := rfl
  unfold IntKind.wrap
  rw [h64, hsg]
  simp only [Bool.true_and]
  rw [Int.emod_eq_of_lt h0 (by omega)]
  simp
  omega
theorem less_triU : ∀ a b : List UInt8, (Op.bytesLess a b || a == b) = !Op.bytesLess b a
  | [], [] => by simp [Op.bytesLess]
  | [], _ :: _ => by simp [Op.bytesLess]
  | _ :: _, [] => by simp [Op.bytesLess]
  | x :: a, y :: b => by
    have ih := less_triU a b
    by_cases h1 : x = y
    · subst h1
      have : ¬ (x < x) := UInt8.lt_irrefl x
      simp only [Op.bytesLess, this, decide_false, beq_self_eq_true, Bool.true_and, Bool.false_or]
      rw [← ih]
      simp
    · have h2 : (x == y) = false := beq_eq_false_iff_ne.2 h1
      have h3 : (y == x) = false := beq_eq_false_iff_ne.2 (fun e => h1 e.symm)
      rcases UInt8.lt_or_lt_of_ne h1 with h | h
      · have h4 : ¬ (y < x) := fun h5 => UInt8.lt_irrefl _ (UInt8.lt_trans h h5)
        simp [Op.bytesLess, h, h2, h3, h4]
      · have h4 : ¬ (x < y) := fun h5 => UInt8.lt_irrefl _ (UInt8.lt_trans h h5)
        simp [Op.bytesLess, h, h2, h3, h4]
theorem less_four {a b : List UInt8} (h : Op.bytesLess a b = true) : Op.bytesLess a b = true ∧ Op.bytesLess b a = false ∧ (b == a) = false ∧ (a == b) = false := by
  have h1 := less_triU b a
  rw [h, Bool.not_true, Bool.or_eq_false_iff] at h1
  refine ⟨h, h1.1, h1.2, ?_⟩
  have h2 : b ≠ a := by simpa using h1.2
  exact beq_eq_false_iff_ne.2 (fun e => h2 e.symm)
theorem cell_alloc {w : World} {b o' : Nat} {v : Value} (h : w.cell? ⟨b, o', none⟩ = some v) (o : Obj) : (w.alloc o).cell? ⟨b, o', none⟩ = some v := cell_on h ((Below.refl _ w).alloc (Nat.le_refl _) o)
theorem own_use {w : World} {base n g c k : Nat} {us : Nat → Us} (h : w.ownsRow base 43 4 (.slice (some ⟨g, 0, none⟩) n c) n (usr us n)) (hk : k < n) : w.cell? ⟨g, k * 4, none⟩ = some (.string (us k).zn) ∧ w.cell? ⟨g, k * 4 + 1, none⟩ = some (.int .i64 (us k).fr) ∧ w.cell? ⟨g, k * 4 + 2, none⟩ = some (.int .i64 (us k).to) ∧ w.cell? ⟨g, k * 4 + 3, none⟩ = some (.string (us k).mt) := by
  obtain ⟨a, c', e, _, hu⟩ := usr_uat h
  obtain ⟨rfl, _, _⟩ := Value.slice.inj e
  rcases hu with h0 | ⟨b, off, e2, hcs⟩
  · omega
  · obtain ⟨rfl, rfl⟩ : g = b ∧ 0 = off := by simpa using e2
    have := hcs k hk
    simpa using this
theorem any_take {L : List (List UInt8)} {q : Nat} (h : q < L.length) (y : List UInt8) : (L.take (q + 1)).any (· == y) = ((L.take q).any (· == y) || (L[q]?.getD [] == y)) := by
  rw [List.take_add_one, List.any_append, List.getElem?_eq_getElem h]
  simp
theorem any_all {L : List (List UInt8)} {y : List UInt8} : (L.take L.length).any (· == y) = decide (y ∈ L) := by
  rw [List.take_length, Bool.eq_iff_iff]
  simp
set_option maxRecDepth 100000 in
set_option maxHeartbeats 8000000 in
theorem UsesTrue_w (D : Dt) (a : Option Addr) (n c : Nat) (us : Nat → Us) (m : ByteArray) (t i j : Int) (w : World) (hL : Laid w) (hM : Mx w) (hD : DAt w D) (hF : D.fits) (hn : n ≤ maxLen) (hc : n ≤ c) (hU : UAt w a n us) (hf : ∀ j, j < n → (us j).fits) (hm : m.size ≤ maxLen) (ht : -9223372036854775808 ≤ t ∧ t ≤ 9223372036854775807) (hi : -9223372036854775808 ≤ i ∧ i ≤ 9223372036854775807) (hj : -9223372036854775808 ≤ j ∧ j ≤ 9223372036854775807) :
    Calls Tryz.prog 4 #[D.v, .slice a n c, .string m, .int .i64 t, .int .i64 i, .int .i64 j] w fun e w' => e = .returned (.bool true) ∧ Below w.heap.size w w' := by
  have HL := hideH hL
  have HM := hideH hM
  have HU := hideH hU
  have HD := hideH hD
  have HE : Hid (∀ v : World, Below w.heap.size w v → UEnv v D a n c us) := fun v h => ⟨⟨hL.on h, hM.on h, hD.on h⟩, hF, hn, hc, hU.on h, hf⟩
  have HEX : Hid (∀ (v : World) (a' : Option Addr) (n' c' : Nat) (us' : Nat → Us), Below w.heap.size w v → n' ≤ 10 → n' ≤ c' → UAt v a' n' us' → (∀ j, j < n' → (us' j).fits) → UEnv v D a' n' c' us') := fun v a' n' c' us' h h1 h2 h3 h4 => ⟨⟨hL.on h, hM.on h, hD.on h⟩, hF, by unfold maxLen; omega, h2, h3, h4⟩
  have HFU := hideH hf
  have HBg : Hid (∀ v : World, Below w.heap.size w v → Calls Tryz.prog 10 #[] v fun e w' => e = .returned (.bool true) ∧ Below v.heap.size v w') := fun v h => usesBegun_c v (HL.out.on h) (HM.out.on h)
  have HZo := hideH (fun v (hv : Below w.heap.size w v) => Zones_c D a n c us m t v (HE.out v hv) hm)
  have HMS := hideH hm
  have HZN := hideH hF.znm
  have hnm := hn
  unfold maxLen at hnm
  obtain ⟨hi1, hi2⟩ := hi
  obtain ⟨hj1, hj2⟩ := hj
  clear hL hM hD hU hf hm hn ht
  have hb := hideH ((Below.refl _ w).alloc (Nat.le_refl _) (.cells #[.slice D.sa D.ns D.sc, .slice D.za D.nz D.zc, .slice D.la D.nl D.lc] 26))
  have hbx := hideH (World.alloc_heap_new w (.cells #[.slice D.sa D.ns D.sc, .slice D.za D.nz D.zc, .slice D.la D.nl D.lc] 26))
  go_enter Tryz.func4, Tryz.ntmps4
  go_wp2_with fail
  refine (HZo.out _ hb.out).mono ?_
  rintro e w2 ⟨az, cz, rfl, -, htx, hw2⟩
  have H2 := hideH (bthen hb.out hw2)
  have C2 := hideH (heap_on hbx.out hw2)
  have HTX := hideH htx
  clear hw2 htx hb hbx
  obtain ⟨z0, z1, z2⟩ := cells3 C2.out
  rcases beq_cases (uznE D n us m t) 0 with ⟨r1, r2⟩ | ⟨r1, r2⟩
  · have R2 := hideH r2
    have hok := uchk_ok (ucat_ok (uzn_ok r2).1).1
    have hn10 := hok.2.1
    have hz5 : D.nz ≤ 5 := (chk_parts hok.1).1.2.1
    rw [r2]
    clear r1 r2 hok
    by_cases hz0 : D.nz = 0
    · have hzi : ((D.nz : Int) == 0) = true := by simp [hz0]
      go_wp2_with fail
      refine (HBg.out _ H2.out).mono ?_
      rintro e w3 ⟨rfl, hw3⟩
      have H3 := hideH (bthen H2.out hw3)
      clear hw3
      go_wp2_with fail
      go_ret
      exact ⟨rfl, H3.out⟩
    · obtain ⟨k, hk, hkz⟩ : ∃ k : Nat, cho i D.nz = k ∧ k < D.nz := by
        have := cho_bd i D.nz (by omega)
        exact ⟨(cho i D.nz).toNat, by omega, by omega⟩
      have HCh : Hid (∀ v, Calls Tryz.prog 14 #[.int .i64 i, .int .i64 D.nz] v fun e w' => e = .returned (.int .i64 k) ∧ w' = v) := fun v => by
        have := choose_any i D.nz v (by omega) hi1 hi2
        rwa [hk] at this
      obtain ⟨me1, me2⟩ := meta_own R2.out hkz
      have hMe : ∀ v, Below w.heap.size w v → Calls Tryz.prog 6 #[D.v, .slice a n c, .string (D.zs k).nm, .int .i64 t] v fun e w' => e = .returned (.tuple #[.string (metR us n (D.zs k).nm t), .int .i64 0]) ∧ Below v.heap.size v w' := fun v hv => by
        have := Meta_c D a n c us (D.zs k).nm t v (HE.out v hv) (HZN.out k hkz)
        rwa [me1, me2] at this
      clear hk me1 me2
      have hn1 : ¬ ((D.nz : Int) = 0) := by omega
      have hn2 : ((D.nz : Int) == 0) = false := by simp; omega
      go_wp2_with fail
      refine (HCh.out _).mono ?_
      rintro e w2 ⟨rfl, rfl⟩
      rcases (HD.out.on H2.out).zones with h0 | ⟨b, off, hsa, hcs⟩
      · omega
      obtain ⟨d0, d1⟩ := hcs k hkz
      rw [hsa] at z1
      simp only [Dt.v, hsa] at hMe
      have HMe := hideH hMe
      clear hcs d1 hMe
      have hk0 : decide ((k : Int) < 0) = false := by simp
      have hkd : decide (D.nz ≤ k) = false := by simp; omega
      have hki : (k : Int) < (D.nz : Int) := by omega
      go_wp2_with fail
      go_region_held3 (fun v => v.cell? ⟨w.heap.size, 0, none⟩ = some (.slice D.sa D.ns D.sc) ∧ v.cell? ⟨w.heap.size, 1, none⟩ = some (.slice (some ⟨b, off, none⟩) D.nz D.zc) ∧ v.cell? ⟨w.heap.size, 2, none⟩ = some (.slice D.la D.nl D.lc) ∧ v.cell? ⟨b, off + k * 2, none⟩ = some (.string (D.zs k).nm))
        (first | (exact ⟨z0, z1, z2, d0⟩) | (exact ⟨cell_on (w := w2.drew) z0 hw3, cell_on (w := w2.drew) z1 hw3, cell_on (w := w2.drew) z2 hw3, cell_on (w := w2.drew) d0 hw3⟩))
        (first | (go_at_call 6; refine (HMe.out _ (by exact H2.out.drew)).mono ?_; rintro e w3 ⟨rfl, hw3⟩))
      all_goals
        have H3 := hideH (bthen (w := w) H2.out.drew hw3)
        have C3 := hideH (heap_on (w := w2.drew) C2.out hw3)
        have T3 := hideH (TX.on (w := w2.drew) HTX.out hw3)
        clear hw3 z0 z1 z2 d0 HMe HCh
        have HIN := hideH (uzn_mem R2.out hkz)
        have HRI := hideH (uzn_rises R2.out)
        have HLN := hideH (uznL_lenT R2.out)
        have HSW := hideH (fun a b => sw_same (a := a) (b := b) R2.out)
        have HZS : Hid (zsel D us n m t k = ((metR us n (D.zs k).nm t).toList == m.toList)) := rfl
        obtain ⟨L, hLd⟩ : ∃ L, L = uznL D n us m t := ⟨_, rfl⟩
        rw [← hLd] at HIN HRI HLN HSW T3 ⊢
        have HLd := hideH hLd
        obtain ⟨N, hN⟩ : ∃ N, N = L.length := ⟨_, rfl⟩
        rw [← hN] at HRI HLN ⊢
        have T3' : Hid (P1 w3 az N (fun j => encStr (L[j]?.getD []))) := by rw [hN]; exact T3
        have HN := hideH hN
        have hN1 : N ≤ 1000 := HLN.out
        generalize metR us n (D.zs k).nm t = mr at HZS ⊢
        clear hLd hN T3 HTX H2 C2
        go_wp2_with fail
        go_loopw [18, 19] (fun x18 x19 v => ∃ (q : Nat) (bb : Bool), q ≤ N ∧ x19 = .int .i64 q ∧ x18 = .bool bb ∧ Hid (bb = (L.take q).any (· == (D.zs k).nm.data.toList)) ∧ Hid (Below w3.heap.size w3 v)) (fun _ x19 _ => N - (intOf x19).toNat)
        case atStart => exact ⟨0, false, Nat.zero_le _, rfl, rfl, rfl, Below.refl _ _⟩
        case round =>
          obtain ⟨q, bb, hq, rfl, rfl, HB, HW⟩ := hrel
          obtain ⟨z0, z1, z2⟩ := cells3 (heap_on C3.out HW.out)
          by_cases hlt : q < N
          · rcases T3'.out.on HW.out with h0 | ⟨bz, oz, hsz, hcz⟩
            · omega
            have e1 : wr.cell? ⟨bz, oz + q, none⟩ = some (.string ⟨(L[q]?.getD []).toArray⟩) := hcz q hlt
            have d0 : wr.cell? ⟨b, off + k * 2, none⟩ = some (.string (D.zs k).nm) := by
              rcases (HD.out.on (bthen H3.out HW.out)).zones with h0 | ⟨b', off', hsa', hcs'⟩
              · omega
              · have : some (⟨b, off, none⟩ : Addr) = some ⟨b', off', none⟩ := by rw [← hsa, hsa']
                obtain ⟨rfl, rfl⟩ : b = b' ∧ off = off' := by simpa using this
                exact (hcs' k hkz).1
            rw [hsa] at z1
            have hq0 : decide ((q : Int) < 0) = false := by simp
            have hqd : decide (N ≤ q) = false := by simp; omega
            have hqi : (q : Int) < (N : Int) := by omega
            have HNB := hideH (any_take (L := L) (q := q) (by have := HN.out; omega) (D.zs k).nm.data.toList)
            have hprev : q = 0 ∨ ∃ p : Nat, q = p + 1 := by
              cases q with
              | zero => exact .inl rfl
              | succ p => exact .inr ⟨p, rfl⟩
            have key : ∀ v : Bool, ((L[q]?.getD []) == (D.zs k).nm.data.toList) = v → (L[q]?.getD [] == (D.zs k).nm.toList) = v := fun v h => by rw [ByteArray.toList_eq]; exact h
            have HKEY := hideH key
            clear key
            have HRQ : Hid (∀ p : Nat, q = p + 1 → Op.bytesLess (L[p]?.getD []) (L[q]?.getD []) = true ∧ Op.bytesLess (L[q]?.getD []) (L[p]?.getD []) = false ∧ (L[q]?.getD [] == L[p]?.getD []) = false ∧ (L[p]?.getD [] == L[q]?.getD []) = false) := fun p hp => by
              subst hp
              exact less_four (HRI.out p hlt)
            have HCZ := hideH hcz
            clear hcz
            obtain ⟨y, hy⟩ : ∃ y, y = L[q]?.getD [] := ⟨_, rfl⟩
            rw [← hy] at e1 HNB HKEY HRQ
            clear hy
            have hcase : (bb = true) ∨ (bb = false ∧ (y == (D.zs k).nm.data.toList) = true) ∨ (bb = false ∧ (y == (D.zs k).nm.data.toList) = false) := by
              cases bb
              · cases (y == (D.zs k).nm.data.toList)
                · exact .inr (.inr ⟨rfl, rfl⟩)
                · exact .inr (.inl ⟨rfl, rfl⟩)
              · exact .inl rfl
            rcases hcase with rfl | ⟨rfl, hcm⟩ | ⟨rfl, hcm⟩
            · have HB2 : Hid (true = (L.take (q + 1)).any (· == (D.zs k).nm.data.toList)) := by show _ = _; rw [HNB.out, ← HB.out]; rfl
              clear HKEY
              rcases hprev with hp | ⟨p, hp⟩
              · have hgt : ¬ ((0 : Int) < (q : Int)) := by omega
                have hgn : ¬ (0 < q) := by omega
                clear hp
                go_wp2_with fail
                go_quiet (fail)
                go_wp2_with fail
                go_quiet (fail)
                go_wp2_with fail
                try simp only [← hsa, ← hsz]
                go_roundw
                case rel => exact ⟨q + 1, true, by omega, by go_num, rfl, HB2, below_drewN HW.out _⟩
                case measure => simp [intOf]; omega
              · have hgt : (0 : Int) < (q : Int) := by omega
                have hgn : 0 < q := by omega
                have hpl : p < N := by omega
                have e2 : wr.cell? ⟨bz, oz + p, none⟩ = some (.string ⟨(L[p]?.getD []).toArray⟩) := HCZ.out p hpl
                obtain ⟨hr1, hr2, hr3, hr4⟩ := HRQ.out p hp
                have hwp : IntKind.i64.wrap ((q : Int) - 1) = (p : Int) := by rw [wrap_nuT (by omega) (by omega)]; omega
                have hp0 : decide ((p : Int) < 0) = false := by simp
                have hpd : decide (N ≤ p) = false := by simp; omega
                have hpi : (p : Int) < (N : Int) := by omega
                generalize L[p]?.getD [] = x at e2 hr1 hr2 hr3 hr4
                clear hp
                go_wp2_with fail
                go_quiet (fail)
                go_wp2_with fail
                go_quiet (fail)
                go_wp2_with fail
                try simp only [← hsa, ← hsz]
                go_roundw
                case rel => exact ⟨q + 1, true, by omega, by go_num, rfl, HB2, below_drewN HW.out _⟩
                case measure => simp [intOf]; omega
            · have HB2 : Hid (true = (L.take (q + 1)).any (· == (D.zs k).nm.data.toList)) := by show _ = _; rw [HNB.out, ← HB.out, hcm]; rfl
              have hcm2 := HKEY.out true hcm
              clear HKEY
              rcases hprev with hp | ⟨p, hp⟩
              · have hgt : ¬ ((0 : Int) < (q : Int)) := by omega
                have hgn : ¬ (0 < q) := by omega
                clear hp
                go_wp2_with fail
                go_quiet (fail)
                go_wp2_with fail
                go_quiet (fail)
                go_wp2_with fail
                try simp only [← hsa, ← hsz]
                go_roundw
                case rel => exact ⟨q + 1, true, by omega, by go_num, rfl, HB2, below_drewN HW.out _⟩
                case measure => simp [intOf]; omega
              · have hgt : (0 : Int) < (q : Int) := by omega
                have hgn : 0 < q := by omega
                have hpl : p < N := by omega
                have e2 : wr.cell? ⟨bz, oz + p, none⟩ = some (.string ⟨(L[p]?.getD []).toArray⟩) := HCZ.out p hpl
                obtain ⟨hr1, hr2, hr3, hr4⟩ := HRQ.out p hp
                have hwp : IntKind.i64.wrap ((q : Int) - 1) = (p : Int) := by rw [wrap_nuT (by omega) (by omega)]; omega
                have hp0 : decide ((p : Int) < 0) = false := by simp
                have hpd : decide (N ≤ p) = false := by simp; omega
                have hpi : (p : Int) < (N : Int) := by omega
                generalize L[p]?.getD [] = x at e2 hr1 hr2 hr3 hr4
                clear hp
                go_wp2_with fail
                go_quiet (fail)
                go_wp2_with fail
                go_quiet (fail)
                go_wp2_with fail
                try simp only [← hsa, ← hsz]
                go_roundw
                case rel => exact ⟨q + 1, true, by omega, by go_num, rfl, HB2, below_drewN HW.out _⟩
                case measure => simp [intOf]; omega
            · have HB2 : Hid (false = (L.take (q + 1)).any (· == (D.zs k).nm.data.toList)) := by show _ = _; rw [HNB.out, ← HB.out, hcm]; rfl
              have hcm2 := HKEY.out false hcm
              clear HKEY
              rcases hprev with hp | ⟨p, hp⟩
              · have hgt : ¬ ((0 : Int) < (q : Int)) := by omega
                have hgn : ¬ (0 < q) := by omega
                clear hp
                go_wp2_with fail
                go_quiet (fail)
                go_wp2_with fail
                go_quiet (fail)
                go_wp2_with fail
                try simp only [← hsa, ← hsz]
                go_roundw
                case rel => exact ⟨q + 1, false, by omega, by go_num, rfl, HB2, below_drewN HW.out _⟩
                case measure => simp [intOf]; omega
              · have hgt : (0 : Int) < (q : Int) := by omega
                have hgn : 0 < q := by omega
                have hpl : p < N := by omega
                have e2 : wr.cell? ⟨bz, oz + p, none⟩ = some (.string ⟨(L[p]?.getD []).toArray⟩) := HCZ.out p hpl
                obtain ⟨hr1, hr2, hr3, hr4⟩ := HRQ.out p hp
                have hwp : IntKind.i64.wrap ((q : Int) - 1) = (p : Int) := by rw [wrap_nuT (by omega) (by omega)]; omega
                have hp0 : decide ((p : Int) < 0) = false := by simp
                have hpd : decide (N ≤ p) = false := by simp; omega
                have hpi : (p : Int) < (N : Int) := by omega
                generalize L[p]?.getD [] = x at e2 hr1 hr2 hr3 hr4
                clear hp
                go_wp2_with fail
                go_quiet (fail)
                go_wp2_with fail
                go_quiet (fail)
                go_wp2_with fail
                try simp only [← hsa, ← hsz]
                go_roundw
                case rel => exact ⟨q + 1, false, by omega, by go_num, rfl, HB2, below_drewN HW.out _⟩
                case measure => simp [intOf]; omega
          · obtain rfl : q = N := by omega
            have hbb : bb = (mr.toList == m.toList) := by
              rw [HB.out, HN.out, any_all, ← HZS.out, Bool.eq_iff_iff, decide_eq_true_eq]
              exact HIN.out
            have H5 := hideH (bthen H3.out HW.out)
            have C5 := hideH (heap_on C3.out HW.out)
            have T5 := hideH (P1.on T3'.out HW.out)
            clear HB HIN HZS H3 C3 T3' z0 z1 z2
            by_cases hn0 : n = 0
            · have hni : ((n : Int) == 0) = true := by simp [hn0]
              go_wp2_with fail
              refine (HBg.out _ H5.out).mono ?_
              rintro e w3 ⟨rfl, hw3⟩
              have H6 := hideH (bthen H5.out hw3)
              clear hw3
              go_wp2_with fail
              go_ret
              exact ⟨rfl, H6.out⟩
            · obtain ⟨ka, hka, hkan⟩ : ∃ k : Nat, cho i n = k ∧ k < n := by
                have := cho_bd i n (by omega)
                exact ⟨(cho i n).toNat, by omega, by omega⟩
              obtain ⟨kb, hkb, hkbn⟩ : ∃ k : Nat, cho j n = k ∧ k < n := by
                have := cho_bd j n (by omega)
                exact ⟨(cho j n).toNat, by omega, by omega⟩
              have HCa : Hid (∀ v, Calls Tryz.prog 14 #[.int .i64 i, .int .i64 n] v fun e w' => e = .returned (.int .i64 ka) ∧ w' = v) := fun v => by
                have := choose_any i n v (by omega) hi1 hi2
                rwa [hka] at this
              have HCb : Hid (∀ v, Calls Tryz.prog 14 #[.int .i64 j, .int .i64 n] v fun e w' => e = .returned (.int .i64 kb) ∧ w' = v) := fun v => by
                have := choose_any j n v (by omega) hj1 hj2
                rwa [hkb] at this
              obtain ⟨i0, hii, hz0', hz1', hz2'⟩ := info_parts info_us
              have hn3 : ¬ ((n : Int) = 0) := by omega
              have hn4 : ((n : Int) == 0) = false := by simp; omega
              rcases HU.out.on H5.out with h0 | ⟨bl, ol, hsl, hcl⟩
              · omega
              have HCL := hideH hcl
              clear hcl hka hkb
              subst hsl
              go_wp2_with (at_builtin; refine wpList_append_lies _ rfl _ _ 27 rfl wr.heap.size 43 i0 _ 4 48 Tryz.underlying27 hii hz0' hz1' hz2' rfl (by decide) _ 0 [] rfl (own_empty (World.alloc_heap_new wr _) (Nat.le_refl _)) ⟨bl, ol, none⟩ n c (usr us n) rfl (usr_len _ _) (us_news (fun j hj => ⟨cell_alloc (HCL.out j hj).1 _, cell_alloc (HCL.out j hj).2.1 _, cell_alloc (HCL.out j hj).2.2.1 _, cell_alloc (HCL.out j hj).2.2.2 _⟩)) (usr_one _ _) (by omega) (by unfold maxLen; omega) (by omega) (by simp) _ rfl ?_; intro g4 q4 w4 hown hgrow hat hl4)
              have hgrow' : (wr.alloc (.cells #[] 43)).grownBy w4 (some wr.heap.size) := hgrow
              have hB4 := ((Below.refl _ wr).alloc (Nat.le_refl _) (.cells #[] 43)).grown hgrow' (by simp) (fun j hj => by
                obtain rfl : wr.heap.size = j := Option.some.inj hj
                exact Nat.le_refl _)
              have BW4 := hideH hB4
              have O6 : Hid (w4.ownsRow wr.heap.size 43 4 (.slice (some ⟨g4, 0, none⟩) n q4) n (usr us n)) := by
                have h := hown
                rw [Nat.zero_add, List.nil_append] at h
                exact h
              have hg4 : wr.heap.size ≤ g4 ∧ g4 < w4.heap.size := O6.out.lt g4 rfl
              have hnq : n ≤ q4 := by
                rcases O6.out.2 with ⟨h0, _⟩ | ⟨g', cap', cur', h0, _, _, h1, _⟩
                · cases h0
                · obtain ⟨_, _, rfl⟩ := Value.slice.inj h0
                  exact h1
              obtain ⟨ga, hga⟩ := own_use O6.out hkan
              obtain ⟨gb, hgb⟩ := own_use O6.out hkbn
              clear hown hgrow hgrow' hat hB4 HW HCL
              refine (HCa.out _).mono ?_
              rintro e w4 ⟨rfl, rfl⟩
              go_wp2_with fail
              refine (HCb.out _).mono ?_
              rintro e w4 ⟨rfl, rfl⟩
              obtain ⟨ga1, ga2, ga3⟩ := hga
              obtain ⟨gb1, gb2, gb3⟩ := hgb
              have ha0 : decide ((ka : Int) < 0) = false := by simp
              have had : decide (n ≤ ka) = false := by simp; omega
              have hai : (ka : Int) < (n : Int) := by omega
              have hb0 : decide ((kb : Int) < 0) = false := by simp
              have hbd : decide (n ≤ kb) = false := by simp; omega
              have hbi : (kb : Int) < (n : Int) := by omega
              have hne1 : ¬ (g4 = w4.heap.size) := by omega
              have hne2 : ¬ (g4 = w4.heap.size + 1) := by omega
              go_wp2_with fail
              go_region_held3 (fun v => v.cell? ⟨g4, ka * 4, none⟩ = some (.string (us ka).zn) ∧ v.cell? ⟨g4, ka * 4 + 1, none⟩ = some (.int .i64 (us ka).fr) ∧ v.cell? ⟨g4, ka * 4 + 2, none⟩ = some (.int .i64 (us ka).to) ∧ v.cell? ⟨g4, ka * 4 + 3, none⟩ = some (.string (us ka).mt) ∧ v.cell? ⟨g4, kb * 4, none⟩ = some (.string (us kb).zn) ∧ v.cell? ⟨g4, kb * 4 + 1, none⟩ = some (.int .i64 (us kb).fr) ∧ v.cell? ⟨g4, kb * 4 + 2, none⟩ = some (.int .i64 (us kb).to) ∧ v.cell? ⟨g4, kb * 4 + 3, none⟩ = some (.string (us kb).mt))
                (first | (exact ⟨ga, ga1, ga2, ga3, gb, gb1, gb2, gb3⟩) | go_keep)
                (first | fail)
              all_goals
                clear ga ga1 ga2 ga3 gb gb1 gb2 gb3
              · obtain ⟨W5, hW5⟩ : ∃ W5, W5 = ((w4.alloc (.cells #[.string (us ka).zn, .int .i64 (us ka).fr, .int .i64 (us ka).to, .string (us ka).mt] 43)).alloc (.cells #[.string (us kb).zn, .int .i64 (us kb).fr, .int .i64 (us kb).to, .string (us kb).mt] 43)).drew := ⟨_, rfl⟩
                have tb := two_boxesU w4 (.cells #[.string (us ka).zn, .int .i64 (us ka).fr, .int .i64 (us ka).to, .string (us ka).mt] 43) (.cells #[.string (us kb).zn, .int .i64 (us kb).fr, .int .i64 (us kb).to, .string (us kb).mt] 43)
                have hB5 : Below w4.heap.size w4 W5 := by rw [hW5]; exact tb.1.drew
                have P5 : Hid (W5.heap[w4.heap.size]? = some (.cells #[.string (us ka).zn, .int .i64 (us ka).fr, .int .i64 (us ka).to, .string (us ka).mt] 43)) := by show _ = _; rw [hW5]; exact tb.2.1
                have R5 : Hid (W5.heap[w4.heap.size + 1]? = some (.cells #[.string (us kb).zn, .int .i64 (us kb).fr, .int .i64 (us kb).to, .string (us kb).mt] 43)) := by show _ = _; rw [hW5]; exact tb.2.2
                simp only [← hW5]
                clear hW5 tb
                have O5 := hideH (own_on O6.out hB5)
                have BW5 := hideH (bthen BW4.out hB5)
                clear hB5
                rename ∀ (a : Act) (w : World), _ → _ => hcont
                refine hcont _ _ ?_
                clear hcont
                refine wp_seq_k (fun K0 hK0 => ?_)
                have HK0 := hideH hK0
                clear hK0
                obtain ⟨y0, y1, y2, y3⟩ := cells4 R5.out
                obtain ⟨a0, a1, a2, a3⟩ := own_use O5.out hkan
                have f0 := O5.out.frozenAt (ka * 4)
                have f1 := O5.out.frozenAt (ka * 4 + 1)
                have f2 := O5.out.frozenAt (ka * 4 + 2)
                have f3 := O5.out.frozenAt (ka * 4 + 3)
                go_wp2_with fail
                refine HK0.out _ _ ?_
                clear HK0 y0 y1 y2 y3 a0 a1 a2 a3 f0 f1 f2 f3
                obtain ⟨W6, hW6⟩ : ∃ W6, W6 = set4 W5 g4 (ka * 4) (us kb) := ⟨_, rfl⟩
                have O7 : Hid (W6.ownsRow wr.heap.size 43 4 (.slice (some ⟨g4, 0, none⟩) n q4) n (usr (upd us ka (us kb)) n)) := by show World.ownsRow _ _ _ _ _ _ _; rw [hW6]; exact set4_own O5.out hkan _
                have P6 : Hid (W6.heap[w4.heap.size]? = some (.cells #[.string (us ka).zn, .int .i64 (us ka).fr, .int .i64 (us ka).to, .string (us ka).mt] 43)) := by show _ = _; rw [hW6, set4_other (by omega)]; exact P5.out
                have R6 : Hid (W6.heap[w4.heap.size + 1]? = some (.cells #[.string (us kb).zn, .int .i64 (us kb).fr, .int .i64 (us kb).to, .string (us kb).mt] 43)) := by show _ = _; rw [hW6, set4_other (by omega)]; exact R5.out
                have BW6 : Hid (Below wr.heap.size wr W6) := by show Below _ _ _; rw [hW6]; exact set4_below BW5.out hg4.1 _ _
                unfold set4 at hW6
                simp only [← hW6]
                clear hW6 P5 R5 O5 BW5
                refine wp_seq_k (fun K0 hK0 => ?_)
                have HK0 := hideH hK0
                clear hK0
                obtain ⟨x0, x1, x2, x3⟩ := cells4 P6.out
                obtain ⟨a0, a1, a2, a3⟩ := own_use O7.out hkbn
                have f0 := O7.out.frozenAt (kb * 4)
                have f1 := O7.out.frozenAt (kb * 4 + 1)
                have f2 := O7.out.frozenAt (kb * 4 + 2)
                have f3 := O7.out.frozenAt (kb * 4 + 3)
                generalize upd us ka (us kb) kb = uz at a0 a1 a2 a3
                go_wp2_with fail
                refine HK0.out _ _ ?_
                clear HK0 x0 x1 x2 x3 a0 a1 a2 a3 f0 f1 f2 f3
                obtain ⟨W7, hW7⟩ : ∃ W7, W7 = set4 W6 g4 (kb * 4) (us ka) := ⟨_, rfl⟩
                have O8 : Hid (W7.ownsRow wr.heap.size 43 4 (.slice (some ⟨g4, 0, none⟩) n q4) n (usr (swU us ka kb) n)) := by
                  show World.ownsRow _ _ _ _ _ _ _
                  rw [hW7, ← sw_upd]
                  exact set4_own O7.out hkbn _
                have BW7 : Hid (Below wr.heap.size wr W7) := by show Below _ _ _; rw [hW7]; exact set4_below BW6.out hg4.1 _ _
                unfold set4 at hW7
                simp only [← hW7]
                clear hW7 P6 R6 O7 BW6
                have H8 := hideH (bthen H5.out BW7.out)
                have C8 := hideH (heap_on C5.out BW7.out)
                have T8 := hideH (P1.on T5.out BW7.out)
                have hz8 : Calls Tryz.prog 7 #[D.v, .slice (some ⟨g4, 0, none⟩) n q4, .string m, .int .i64 t] W7 fun e w' => uznP L 0 W7 e w' := by
                  obtain ⟨s1, s2⟩ := HSW.out ka kb hkan hkbn
                  obtain ⟨a', c', e', _, hu⟩ := usr_uat O8.out
                  obtain ⟨rfl, _, rfl⟩ := Value.slice.inj e'
                  have := Zones_c D (some ⟨g4, 0, none⟩) n q4 (swU us ka kb) m t W7 (HEX.out W7 _ n q4 _ H8.out hn10 hnq hu (fun j hj => HFU.out _ (sg_lt hkan hkbn hj))) HMS.out
                  rwa [s1, s2] at this
                simp only [Dt.v, hsa] at hz8
                have HZ8 := hideH hz8
                clear hz8 O8 BW7 H5 C5 T5 HSW BW4 O6
                obtain ⟨z0, z1, z2⟩ := cells3 C8.out
                go_wp2_with fail
                clear z0 z1 z2
                refine HZ8.out.mono ?_
                rintro e w8 ⟨az2, cz2, rfl, -, htx2, hw8⟩
                have H9 := hideH (bthen H8.out hw8)
                have T9 := hideH (P1.on T8.out hw8)
                have X9 := hideH htx2
                clear hw8 htx2 H8 C8 T8 HZ8
                go_wp2_with fail
                refine (HBg.out _ H9.out).mono ?_
                rintro e w9 ⟨rfl, hw9⟩
                have H10 := hideH (bthen H9.out hw9)
                have T10 := hideH (P1.on T9.out hw9)
                have X10 := hideH (X9.out.on hw9)
                clear hw9 H9 T9 X9
                have hSa : Calls Tryz.prog 13 #[.slice az2 L.length cz2, .slice az q cz] w9 fun e w' => e = .returned (.bool true) ∧ Below w9.heap.size w9 w' := by
                  have h1 : TX w9 az L := by
                    have := T10.out
                    rw [HN.out] at this
                    exact this
                  have := SameTexts_c az2 az cz2 cz L L w9 X10.out h1 (by have := HN.out; omega) (by have := HN.out; omega)
                  rw [decide_eq_true rfl, ← HN.out] at this
                  rw [← HN.out]
                  exact this
                have HSa := hideH hSa
                clear hSa
                go_wp2_with fail
                refine HSa.out.mono ?_
                rintro e w10 ⟨rfl, hw10⟩
                have H11 := hideH (bthen H10.out hw10)
                clear hw10
                go_wp2_with fail
                go_ret
                exact ⟨rfl, H11.out⟩
              · obtain ⟨W5, hW5⟩ : ∃ W5, W5 = ((w4.alloc (.cells #[.string (us kb).zn, .int .i64 (us kb).fr, .int .i64 (us kb).to, .string (us kb).mt] 43)).alloc (.cells #[.string (us ka).zn, .int .i64 (us ka).fr, .int .i64 (us ka).to, .string (us ka).mt] 43)).drew := ⟨_, rfl⟩
                have tb := two_boxesU w4 (.cells #[.string (us kb).zn, .int .i64 (us kb).fr, .int .i64 (us kb).to, .string (us kb).mt] 43) (.cells #[.string (us ka).zn, .int .i64 (us ka).fr, .int .i64 (us ka).to, .string (us ka).mt] 43)
                have hB5 : Below w4.heap.size w4 W5 := by rw [hW5]; exact tb.1.drew
                have P5 : Hid (W5.heap[w4.heap.size]? = some (.cells #[.string (us kb).zn, .int .i64 (us kb).fr, .int .i64 (us kb).to, .string (us kb).mt] 43)) := by show _ = _; rw [hW5]; exact tb.2.1
                have R5 : Hid (W5.heap[w4.heap.size + 1]? = some (.cells #[.string (us ka).zn, .int .i64 (us ka).fr, .int .i64 (us ka).to, .string (us ka).mt] 43)) := by show _ = _; rw [hW5]; exact tb.2.2
                simp only [← hW5]
                clear hW5 tb
                have O5 := hideH (own_on O6.out hB5)
                have BW5 := hideH (bthen BW4.out hB5)
                clear hB5
                rename ∀ (a : Act) (w : World), _ → _ => hcont
                refine hcont _ _ ?_
                clear hcont
                refine wp_seq_k (fun K0 hK0 => ?_)
                have HK0 := hideH hK0
                clear hK0
                obtain ⟨y0, y1, y2, y3⟩ := cells4 P5.out
                obtain ⟨a0, a1, a2, a3⟩ := own_use O5.out hkan
                have f0 := O5.out.frozenAt (ka * 4)
                have f1 := O5.out.frozenAt (ka * 4 + 1)
                have f2 := O5.out.frozenAt (ka * 4 + 2)
                have f3 := O5.out.frozenAt (ka * 4 + 3)
                go_wp2_with fail
                refine HK0.out _ _ ?_
                clear HK0 y0 y1 y2 y3 a0 a1 a2 a3 f0 f1 f2 f3
                obtain ⟨W6, hW6⟩ : ∃ W6, W6 = set4 W5 g4 (ka * 4) (us kb) := ⟨_, rfl⟩
                have O7 : Hid (W6.ownsRow wr.heap.size 43 4 (.slice (some ⟨g4, 0, none⟩) n q4) n (usr (upd us ka (us kb)) n)) := by show World.ownsRow _ _ _ _ _ _ _; rw [hW6]; exact set4_own O5.out hkan _
                have P6 : Hid (W6.heap[w4.heap.size]? = some (.cells #[.string (us kb).zn, .int .i64 (us kb).fr, .int .i64 (us kb).to, .string (us kb).mt] 43)) := by show _ = _; rw [hW6, set4_other (by omega)]; exact P5.out
                have R6 : Hid (W6.heap[w4.heap.size + 1]? = some (.cells #[.string (us ka).zn, .int .i64 (us ka).fr, .int .i64 (us ka).to, .string (us ka).mt] 43)) := by show _ = _; rw [hW6, set4_other (by omega)]; exact R5.out
                have BW6 : Hid (Below wr.heap.size wr W6) := by show Below _ _ _; rw [hW6]; exact set4_below BW5.out hg4.1 _ _
                unfold set4 at hW6
                simp only [← hW6]
                clear hW6 P5 R5 O5 BW5
                refine wp_seq_k (fun K0 hK0 => ?_)
                have HK0 := hideH hK0
                clear hK0
                obtain ⟨x0, x1, x2, x3⟩ := cells4 R6.out
                obtain ⟨a0, a1, a2, a3⟩ := own_use O7.out hkbn
                have f0 := O7.out.frozenAt (kb * 4)
                have f1 := O7.out.frozenAt (kb * 4 + 1)
                have f2 := O7.out.frozenAt (kb * 4 + 2)
                have f3 := O7.out.frozenAt (kb * 4 + 3)
                generalize upd us ka (us kb) kb = uz at a0 a1 a2 a3
                go_wp2_with fail
                refine HK0.out _ _ ?_
                clear HK0 x0 x1 x2 x3 a0 a1 a2 a3 f0 f1 f2 f3
                obtain ⟨W7, hW7⟩ : ∃ W7, W7 = set4 W6 g4 (kb * 4) (us ka) := ⟨_, rfl⟩
                have O8 : Hid (W7.ownsRow wr.heap.size 43 4 (.slice (some ⟨g4, 0, none⟩) n q4) n (usr (swU us ka kb) n)) := by
                  show World.ownsRow _ _ _ _ _ _ _
                  rw [hW7, ← sw_upd]
                  exact set4_own O7.out hkbn _
                have BW7 : Hid (Below wr.heap.size wr W7) := by show Below _ _ _; rw [hW7]; exact set4_below BW6.out hg4.1 _ _
                unfold set4 at hW7
                simp only [← hW7]
                clear hW7 P6 R6 O7 BW6
                have H8 := hideH (bthen H5.out BW7.out)
                have C8 := hideH (heap_on C5.out BW7.out)
                have T8 := hideH (P1.on T5.out BW7.out)
                have hz8 : Calls Tryz.prog 7 #[D.v, .slice (some ⟨g4, 0, none⟩) n q4, .string m, .int .i64 t] W7 fun e w' => uznP L 0 W7 e w' := by
                  obtain ⟨s1, s2⟩ := HSW.out ka kb hkan hkbn
                  obtain ⟨a', c', e', _, hu⟩ := usr_uat O8.out
                  obtain ⟨rfl, _, rfl⟩ := Value.slice.inj e'
                  have := Zones_c D (some ⟨g4, 0, none⟩) n q4 (swU us ka kb) m t W7 (HEX.out W7 _ n q4 _ H8.out hn10 hnq hu (fun j hj => HFU.out _ (sg_lt hkan hkbn hj))) HMS.out
                  rwa [s1, s2] at this
                simp only [Dt.v, hsa] at hz8
                have HZ8 := hideH hz8
                clear hz8 O8 BW7 H5 C5 T5 HSW BW4 O6
                obtain ⟨z0, z1, z2⟩ := cells3 C8.out
                go_wp2_with fail
                clear z0 z1 z2
                refine HZ8.out.mono ?_
                rintro e w8 ⟨az2, cz2, rfl, -, htx2, hw8⟩
                have H9 := hideH (bthen H8.out hw8)
                have T9 := hideH (P1.on T8.out hw8)
                have X9 := hideH htx2
                clear hw8 htx2 H8 C8 T8 HZ8
                go_wp2_with fail
                refine (HBg.out _ H9.out).mono ?_
                rintro e w9 ⟨rfl, hw9⟩
                have H10 := hideH (bthen H9.out hw9)
                have T10 := hideH (P1.on T9.out hw9)
                have X10 := hideH (X9.out.on hw9)
                clear hw9 H9 T9 X9
                have hSa : Calls Tryz.prog 13 #[.slice az2 L.length cz2, .slice az q cz] w9 fun e w' => e = .returned (.bool true) ∧ Below w9.heap.size w9 w' := by
                  have h1 : TX w9 az L := by
                    have := T10.out
                    rw [HN.out] at this
                    exact this
                  have := SameTexts_c az2 az cz2 cz L L w9 X10.out h1 (by have := HN.out; omega) (by have := HN.out; omega)
                  rw [decide_eq_true rfl, ← HN.out] at this
                  rw [← HN.out]
                  exact this
                have HSa := hideH hSa
                clear hSa
                go_wp2_with fail
                refine HSa.out.mono ?_
                rintro e w10 ⟨rfl, hw10⟩
                have H11 := hideH (bthen H10.out hw10)
                clear hw10
                go_wp2_with fail
                go_ret
                exact ⟨rfl, H11.out⟩
  · have hne : (uznE D n us m t != 0) = true := by rw [bne_iff_ne]; exact r2
    clear r1 r2
    go_wp2_with fail
    refine (HBg.out _ H2.out).mono ?_
    rintro e w3 ⟨rfl, hw3⟩
    have H3 := hideH (bthen H2.out hw3)
    clear hw3
    go_wp2_with fail
    go_ret
    exact ⟨rfl, H3.out⟩
end Go.Proofs.YtainhpnmgligjaeGreatDoor
