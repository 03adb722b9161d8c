/- The document's own BuildOf. -/
import Derived.Test.YthkdjklpegmnnaaTrieV
namespace Go.Proofs.Ythkdjklpegmnnaa.Tri
open Go Go.RowKit Go.Maps
set_option linter.unusedVariables false

set_option maxRecDepth 100000 in
set_option maxHeartbeats 8000000 in
theorem BuildOf_c (a : Option Addr) (n c : Nat) (ss : Nat → ByteArray) (w : World) (hP : TxA w a n ss) (h0 : bldE n ss = 0) :
    Calls Try.prog 10 #[.slice a n c] w fun e w' => adP w.heap.size w (bldN (wl n ss) n) e w' := by
  obtain ⟨h40, hok⟩ := bldE_zero h0
  have HP := hideH hP
  have HS12 : Hid (∀ j, j < n → (ss j).size ≤ 12) := fun j hj => (okW_sz (hok j hj)).2
  have HSt := hideH (own_start w)
  have HB0 := hideH ((Below.refl _ w).alloc (Nat.le_refl _) (.cells #[.slice none 0 0, .int .i64 (-1)] 47))
  obtain ⟨i0, hi, hz0, hz1, hz2⟩ := info_parts info_node
  obtain ⟨i1, hj, hy0, hy1, hy2⟩ := info_parts info_edge
  have HX : Hid (∀ (B : Nat), B = w.heap.size → B ≤ w.heap.size) := fun B h => by omega
  clear hP hok h0
  go_enter Try.func10, Try.ntmps10
  go_wp2_with fail
  go_loopw [3, 4] (fun x3 x4 v => ∃ (i : Nat) (vs : Nat → Value), i ≤ n ∧ x4 = .int .i64 i ∧ Hid (OwT v w.heap.size x3 vs (bldN (wl n ss) i)) ∧ Hid (Below w.heap.size w v)) (fun _ x4 _ => n - (intOf x4).toNat)
  case atStart => exact ⟨0, _, Nat.zero_le _, rfl, HSt, HB0⟩
  case round =>
    obtain ⟨i, vs0, hin, rfl, HO, HW⟩ := hrel
    by_cases hlt : i < n
    · obtain ⟨pre0, o1, o2, o3⟩ := bld_fits (n := n) (ss := ss) (k := i) (by omega) h40 HS12.out
      have hokT := ok_okT o1 o2
      obtain ⟨g0, cap0, hv0, -, -, -, -, -⟩ := HO.out.slice hokT.1
      obtain ⟨t, ht⟩ : ∃ t, t = bldN (wl n ss) i := ⟨_, rfl⟩
      obtain ⟨s, hs⟩ : ∃ s, s = ss i := ⟨_, rfl⟩
      have h12 : s.size ≤ 12 := by rw [hs]; exact HS12.out i hlt
      have HNx : Hid (bldN (wl n ss) (i + 1) = addw t s.data.toList i) := by
        show _ = _
        rw [bld_succ, wo_wl hlt, ht, hs]
      rw [← ht] at HO o1 o2 o3 hv0
      have HT := hideH ht
      have HSS := hideH hs
      have HI : Hid (bJ w.heap.size w t s t (.slice (some ⟨g0, 0, none⟩) t.length cap0) 0 0 wr) := by
        refine ⟨vs0, pre0, [], ?_, o1, o1.zero, rfl, by omega, fun j => ?_, HW.out⟩
        · rw [← hv0]; exact HO.out
        · by_cases hj : j < t.length
          · exact o2 j hj
          · rw [nod, List.getElem?_eq_none (by omega)]; decide
      subst hv0
      have htl : t.length ≤ 600 := o3
      obtain ⟨tl, htl2⟩ : ∃ tl, tl = t.length := ⟨_, rfl⟩
      rw [← htl2] at htl
      have HTL := hideH htl2
      clear ht hs HO o1 o2 o3 hokT HW htl2
      have hini : (i : Int) < (n : Int) := by omega
      obtain ⟨wo, hwo⟩ : ∃ wo, wo = wr := ⟨_, rfl⟩
      rw [← hwo] at HI
      simp only [← hwo]
      clear hwo
      go_wp2_with fail
      go_loopw [3, 5, 6] (fun x3 x5 x6 W => ∃ (T : List Nd) (m a g cap : Nat), m ≤ s.size ∧ x3 = .slice (some ⟨g, 0, none⟩) T.length cap ∧ x6 = .int .i64 m ∧ x5 = .int .i64 a ∧ Hid (bJ w.heap.size w t s T (.slice (some ⟨g, 0, none⟩) T.length cap) m a W)) (fun _ _ x6 _ => s.size - (intOf x6).toNat)
      case atStart => exact ⟨t, 0, 0, g0, cap0, Nat.zero_le _, rfl, rfl, rfl, HI⟩
      case round =>
        obtain ⟨T, m, a', g, cap, hm, rfl, rfl, rfl, HA⟩ := hrel
        have HBw : Hid (Below w.heap.size w wr) := by obtain ⟨_, _, _, _, _, _, _, _, _, h⟩ := HA.out; exact h
        rcases HP.out.on HBw.out with h0 | ⟨b, off, hsa, hcs⟩
        · omega
        have ds := hcs i hlt
        rw [← HSS.out] at ds
        clear hcs
        obtain ⟨vs, pre, p, hO, hk, hp, hlay, hTl, hwd, hbel⟩ := HA.out
        have hal : a' < T.length := by rw [hk.len]; exact (List.getElem?_eq_some_iff.1 hp).1
        obtain ⟨g', cap', he2, hbg, hgw, -, hcells, hfz⟩ := hO.slice (by omega)
        simp only [Value.slice.injEq, Option.some.injEq, Addr.mk.injEq, and_true, true_and] at he2
        obtain ⟨rfl, rfl⟩ := he2
        have hTl2 : T.length ≤ tl + m := by have := HTL.out; omega
        have hai : (a' : Int) < (T.length : Int) := by omega
        have ha0 : (0 : Int) ≤ (a' : Int) := by omega
        obtain ⟨d0, d1⟩ := hcells a' hal
        have hmi : ((m : Int) < (s.size : Int)) = (m < s.size) := by simp
        by_cases hms : m < s.size
        · obtain ⟨ea, ec, he1, hec, hedl⟩ := own_edl (hO.es a' hal)
          rw [he1] at d0
          have HEd := hideH (fun v (hv : Below wr.heap.size wr v) => edgeOf_c ea ec (nod T a').es (nod T a').wd s[m] v (by have := rises_len (hk.so a'); unfold maxLen; omega) (hedl.on hv))
          unfold ckP at HEd
          have hrl := rises_len (hk.so a')
          have fz := hfz (a' * 2)
          have HR := hideH (hk.so a')
          have HL := hideH hedl
          have HO2 := hideH hO
          have HK2 := hideH hk
          have HPp := hideH hp
          have HLy := hideH hlay
          have HE1 := hideH he1
          have HTl := hideH hTl
          have HWd := hideH hwd
          clear hO hk hp hlay he1 hec hedl hcells hfz hTl hwd hbel hmi
          have hni : (m : Int) < (s.size : Int) := by omega
          cases hed : edg (nod T a').es s[m] with
          | some k =>
            have heo : eOf (nod T a').es s[m] = k := by unfold eOf; rw [hed]; rfl
            have HNx2 := hideH (fun v (hv : Below wr.heap.size wr v) => (bJ_on hms hed (Nat.le_refl _) HA.out hv).1)
            have hkk := (bJ_on hms hed (Nat.le_refl _) HA.out (Below.refl _ _)).2
            rw [heo, ← hkk] at HEd
            generalize k.toNat = kk at *
            clear hkk heo hed k fz
            go_wp2_with (go_at_call 22; refine (HEd.out _ (Below.refl _ _)).mono ?_; rintro e w2 ⟨rfl, hw2⟩)
            have H2 := hideH (HNx2.out _ hw2)
            clear hw2 d0 d1 ds
            try simp only [← hsa]
            go_roundw
            case rel => exact ⟨T, m + 1, kk, g, cap, by omega, rfl, by go_num, rfl, H2⟩
            case measure => simp [intOf]; omega
          | none =>
            have heo : eOf (nod T a').es s[m] = -1 := by unfold eOf; rw [hed]; rfl
            rw [heo] at HEd
            have HED := hideH hed
            obtain ⟨E, hE⟩ : ∃ E, E = (nod T a').es := ⟨_, rfl⟩
            have HE := hideH hE
            obtain ⟨L, hL⟩ : ∃ L, L = E.length := ⟨_, rfl⟩
            rw [← hE, ← hL] at hrl d0 HEd
            rw [← hE] at HR HL HED
            have HLn := hideH hL
            clear heo hed hE hL
            go_wp2_with (go_at_call 22; refine (HEd.out _ (Below.refl _ _)).mono ?_; rintro e w2 ⟨rfl, hw2⟩; refine Hid.out ?_)
            refine hideH ?_
            obtain ⟨C, hC⟩ : ∃ C, C = s[m] := ⟨_, rfl⟩
            have HC := hideH hC
            rw [← hC] at HED
            simp only [← hC]
            clear hC HEd
            have d2 := cell_on d0 hw2
            have fz2 : w2.frozen? ⟨g, a' * 2, none⟩ = false := by rw [hw2.frozen (p := ⟨g, a' * 2, none⟩) hgw]; exact fz
            have hgw2 : g < w2.heap.size := by have := hw2.size; omega
            have H2 := hideH hw2
            clear hw2 d0 d1 ds fz
            have HB3 : Hid (Below w2.heap.size w2 (w2.alloc (.cells #[] 52))) := (Below.refl _ w2).alloc (Nat.le_refl _) _
            have HV3 : Hid ((w2.alloc (.cells #[] 52)).ownsRow w2.heap.size 52 2 (.slice (some ⟨w2.heap.size, 0, none⟩) 0 0) 0 []) := own_void (World.alloc_heap_new w2 _) (Nat.le_refl _)
            have HN3 := hideH (edl_news ((HL.out.on H2.out).on HB3.out))
            rw [← HLn.out] at HN3
            have d3 := cell_on d2 HB3.out
            go_wp2_with (at_builtin; first | (refine wpList_append_row _ rfl _ _ 45 rfl w2.heap.size 52 i1 _ 2 16 Try.underlying45 hj hy0 hy1 hy2 rfl (by decide) _ _ _ rfl HV3.out ea L ec (ecells E) rfl (by rw [ecells_len, HLn.out]) HN3.out (ecells_one E) (by unfold maxLen; omega) (by omega) (by simp) ?_; intro v3 w3 hown3 hgrow3 hat3; refine Hid.out ?_))
            refine hideH ?_
            have HB4 := hideH (below_own HB3.out (Nat.le_refl _) HV3.out hgrow3)
            have O3 : Hid (w3.ownsRow w2.heap.size 52 2 v3 L (ecells E)) := by
              show World.ownsRow _ _ _ _ _ _ _
              rw [Nat.zero_add, List.nil_append] at hown3
              exact hown3
            have d4 := cell_on d2 HB4.out
            clear hown3 hgrow3 hat3 HB3 HV3 HN3 d3
            have HB5 : Hid (Below w3.heap.size w3 (w3.alloc (.cells #[.int .u8 (C.toNat : Int), .int .i64 T.length] 52))) := (Below.refl _ w3).alloc (Nat.le_refl _) _
            have O4 := hideH (own_on O3.out HB5.out)
            have HN5 : Hid (∀ j u, [Value.int .u8 (C.toNat : Int), Value.int .i64 T.length][j]? = some u → (w3.alloc (.cells #[.int .u8 (C.toNat : Int), .int .i64 T.length] 52)).cell? ((⟨w3.heap.size, 0, none⟩ : Addr).add j) = some u) := fun j u hj => by
              match j, hj with
              | 0, hj => simp at hj; subst hj; simp [Addr.add_lit]
              | 1, hj => simp at hj; subst hj; simp [Addr.add_lit]
              | j + 2, hj => simp at hj
            have HS5 : Hid (w2.heap.size ≤ (w3.alloc (.cells #[.int .u8 (C.toNat : Int), .int .i64 T.length] 52)).heap.size) := by
              have h1 := HB4.out.size
              have h2 := HB5.out.size
              show _ ≤ _
              omega
            go_wp2_with (at_builtin; refine wpList_append_lies _ rfl _ _ 45 rfl w2.heap.size 52 i1 _ 2 16 Try.underlying45 hj hy0 hy1 hy2 rfl (by decide) _ _ _ rfl O4.out ⟨w3.heap.size, 0, none⟩ 1 1 [.int .u8 (C.toNat : Int), .int .i64 T.length] rfl rfl HN5.out (by simp [Value.oneCell']) (by decide) (by unfold maxLen; omega) (by omega) HS5.out _ rfl ?_; intro g4 q4 w4 hown4 hgrow4 hat4 hl4; refine Hid.out ?_)
            refine hideH ?_
            have HB6 := hideH (below_own (HB4.out.trans (HB5.out.mono HB4.out.size)) (Nat.le_refl _) O4.out hgrow4)
            have O6 : Hid (w4.ownsRow w2.heap.size 52 2 (.slice (some ⟨g4, 0, none⟩) (L + 1) q4) (L + 1) (ecells (put1 E L C T.length))) := by
              show World.ownsRow _ _ _ _ _ _ _
              rw [HLn.out, ← put_end, ← HLn.out]
              exact hown4
            have hg4 : w2.heap.size ≤ g4 := (own_lt O6.out rfl).1
            have HOw := hideH (HO2.out.on H2.out)
            have HBq : Hid (Below w.heap.size w w2) := bthen HBw.out H2.out
            clear hown4 hgrow4 hat4 hl4 O3 O4 HB4 HB5 HN5 HS5 d4 H2 HBw HO2 HA
            have hgq : g ≠ g4 := by omega
            go_wp2_with fail
            go_loopw [10] (fun x10 v => ∃ q : Nat, q ≤ L ∧ x10 = .int .i64 q ∧ Hid (v.ownsRow w2.heap.size 52 2 (.slice (some ⟨g4, 0, none⟩) (L + 1) q4) (L + 1) (ecells (put1 E q C T.length))) ∧ Hid (∀ i, q ≤ i → i < L → C < eC E i) ∧ Hid (Below w2.heap.size w2 v)) (fun x10 _ => (intOf x10).toNat)
            case atStart => exact ⟨L, Nat.le_refl _, by go_num, O6, fun i h1 h2 => by omega, HB6⟩
            case round =>
              obtain ⟨q, hq, rfl, HO3, HG, HV⟩ := hrel
              clear O6 HB6
              have d5 := cell_on d2 HV.out
              have fz5 : wr.frozen? ⟨g, a' * 2, none⟩ = false := by rw [HV.out.frozen (p := ⟨g, a' * 2, none⟩) hgw2]; exact fz2
              by_cases hx : 0 < q ∧ C < eC E (q - 1)
              · obtain ⟨p', hpq⟩ : ∃ p', q = p' + 1 := ⟨q - 1, by omega⟩
                have hxx : C < eC E p' := by have := hx.2; rwa [show q - 1 = p' by omega] at this
                obtain ⟨cu0, cu1⟩ := put_ahead E (p := p') (by have := HLn.out; omega) C T.length
                obtain ⟨cv0, cv1⟩ := put_here E (p := q) (by have := HLn.out; omega) C T.length
                rw [← hpq] at cu0 cu1
                rw [← HO3.out.cellAt _ (by omega)] at cu0 cu1 cv0 cv1
                have hwp : IntKind.i64.wrap ((q : Int) - 1) = (p' : Int) := by rw [wrap_nn (by omega) (by omega)]; omega
                have hp0 : decide ((p' : Int) < 0) = false := by simp
                have hq0 : decide ((q : Int) < 0) = false := by simp
                have hgn : 0 < q := by omega
                have hgi : (0 : Int) < (q : Int) := by omega
                have hpd : decide (L + 1 ≤ p') = false := by simp; omega
                have hqd : decide (L + 1 ≤ q) = false := by simp; omega
                have hpi : (p' : Int) < ((L + 1 : Nat) : Int) := by omega
                have hpi2 : (p' : Int) < (L : Int) + 1 := by omega
                have hqi : (q : Int) < ((L + 1 : Nat) : Int) := by omega
                have hqi2 : (q : Int) < (L : Int) + 1 := by omega
                have hb1 := (eC E p').toNat_lt
                have hb2 := C.toNat_lt
                have hlt2 : (C.toNat : Int) < ((eC E p').toNat : Int) := by rw [UInt8.lt_iff_toNat_lt] at hxx; omega
                have HXX := hideH hxx
                have HPQ := hideH hpq
                clear hxx hx d5 fz5 hpq
                generalize hXe : eC E p' = X at cu0 hlt2 hb1
                generalize hYe : eT E p' = Y at cu1
                have HXe := hideH hXe
                have HYe := hideH hYe
                clear hXe hYe
                go_wp2_with fail
                go_quiet (fail)
                obtain ⟨W4, hW4⟩ : ∃ W4, W4 = wr.drewN nq := ⟨_, rfl⟩
                have hB4 : Below wr.heap.size wr W4 := by rw [hW4]; exact below_drewN (Below.refl _ _) _
                simp only [← hW4]
                clear hW4
                have O4 := hideH (own_on HO3.out hB4)
                have BW4 := hideH (bthen HV.out hB4)
                have ga0 := cell_on cu0 hB4
                have ga1 := cell_on cu1 hB4
                have gb0 := cell_on cv0 hB4
                have gb1 := cell_on cv1 hB4
                have hg5 : g4 < W4.heap.size := (own_lt O4.out rfl).2
                clear hB4 cu0 cu1 cv0 cv1
                have hne1 : ¬ (g4 = W4.heap.size) := by omega
                have hne2 : ¬ (g4 = W4.heap.size + 1) := by omega
                go_wp2_with fail
                go_region_held3 (fun v => v.cell? ⟨g4, p' * 2, none⟩ = some (.int .u8 (X.toNat : Int)) ∧ v.cell? ⟨g4, p' * 2 + 1, none⟩ = some (.int .i64 Y) ∧ v.cell? ⟨g4, q * 2, none⟩ = some (.int .u8 (C.toNat : Int)) ∧ v.cell? ⟨g4, q * 2 + 1, none⟩ = some (.int .i64 T.length))
                  (first | (exact ⟨ga0, ga1, gb0, gb1⟩) | go_keep)
                  (first | fail)
                all_goals
                  clear ga0 ga1 gb0 gb1
                · obtain ⟨W5, hW5⟩ : ∃ W5, W5 = ((W4.alloc (.cells #[.int .u8 (X.toNat : Int), .int .i64 Y] 52)).alloc (.cells #[.int .u8 (C.toNat : Int), .int .i64 T.length] 52)).drew := ⟨_, rfl⟩
                  have tb := two_boxes W4 (.cells #[.int .u8 (X.toNat : Int), .int .i64 Y] 52) (.cells #[.int .u8 (C.toNat : Int), .int .i64 T.length] 52)
                  have hB5 : Below W4.heap.size W4 W5 := by rw [hW5]; exact tb.1.drew
                  obtain ⟨bx, hbx⟩ : ∃ bx, bx = W4.heap.size := ⟨_, rfl⟩
                  obtain ⟨bz, hby⟩ : ∃ bz, bz = W4.heap.size + 1 := ⟨_, rfl⟩
                  have P5 : Hid (W5.heap[bx]? = some (.cells #[.int .u8 (X.toNat : Int), .int .i64 Y] 52)) := by show _ = _; rw [hW5, hbx]; exact tb.2.1
                  have R5 : Hid (W5.heap[bz]? = some (.cells #[.int .u8 (C.toNat : Int), .int .i64 T.length] 52)) := by show _ = _; rw [hW5, hby]; exact tb.2.2
                  have hnx : bx ≠ g4 := by omega
                  have hny : bz ≠ g4 := by omega
                  simp only [← hW5, ← hby]
                  simp only [← hbx]
                  clear hW5 tb hbx hby
                  have O5 := hideH (own_on O4.out hB5)
                  have BW5 := hideH (bthen BW4.out hB5)
                  clear hB5 O4 BW4
                  rename ∀ (a : Act) (w : World), _ → _ => hcont
                  refine hcont _ _ ?_
                  clear hcont
                  refine wp_seq_k (fun K0 hK0 => ?_)
                  have HK0 := hideH hK0
                  clear hK0
                  obtain ⟨y0, y1⟩ := cell2 R5.out
                  obtain ⟨cu0, cu1⟩ := put_ahead E (p := p') (by have := HLn.out; have := HPQ.out; omega) C T.length
                  rw [← HPQ.out, ← O5.out.cellAt _ (by have := HPQ.out; omega)] at cu0 cu1
                  have f0 := O5.out.frozenAt (p' * 2)
                  have f1 := O5.out.frozenAt (p' * 2 + 1)
                  go_wp2_with fail
                  refine HK0.out _ _ ?_
                  clear HK0 y0 y1 cu0 cu1 f0 f1
                  obtain ⟨W6, hW6⟩ : ∃ W6, W6 = set2 W5 g4 (p' * 2) C T.length := ⟨_, rfl⟩
                  have O6 := hideH (set2_own O5.out (p' * 2) C T.length)
                  rw [← hW6] at O6
                  have P6 : Hid (W6.heap[bx]? = some (.cells #[.int .u8 (X.toNat : Int), .int .i64 Y] 52)) := by show _ = _; rw [hW6, set2_other hnx]; exact P5.out
                  have BW6 : Hid (Below w2.heap.size w2 W6) := by show Below _ _ _; rw [hW6]; exact set2_below BW5.out hg4 _ _ _
                  unfold set2 at hW6
                  simp only [← hW6]
                  clear hW6 P5 R5 BW5 O5
                  obtain ⟨x0, x1⟩ := cell2 P6.out
                  obtain ⟨cv0, cv1⟩ := put_here E (p := q) (by have := HLn.out; omega) C T.length
                  have cz0 : W6.cell? ⟨g4, q * 2, none⟩ = some (.int .u8 (C.toNat : Int)) := by
                    rw [O6.out.cellAt _ (by omega), List.getElem?_set_ne (by have := HPQ.out; omega), List.getElem?_set_ne (by have := HPQ.out; omega)]
                    exact cv0
                  have cz1 : W6.cell? ⟨g4, q * 2 + 1, none⟩ = some (.int .i64 T.length) := by
                    rw [O6.out.cellAt _ (by omega), List.getElem?_set_ne (by have := HPQ.out; omega), List.getElem?_set_ne (by have := HPQ.out; omega)]
                    exact cv1
                  clear cv0 cv1
                  have f0 := O6.out.frozenAt (q * 2)
                  have f1 := O6.out.frozenAt (q * 2 + 1)
                  go_wp2_with fail
                  clear x0 x1 cz0 cz1 f0 f1
                  obtain ⟨W7, hW7⟩ : ∃ W7, W7 = set2 W6 g4 (q * 2) X Y := ⟨_, rfl⟩
                  have O7 : Hid (W7.ownsRow w2.heap.size 52 2 (.slice (some ⟨g4, 0, none⟩) (L + 1) q4) (L + 1) (ecells (put1 E p' C T.length))) := by
                    have h1 := set2_own O6.out (q * 2) X Y
                    rw [← hW7] at h1
                    have h2 := put_back E (p := p') (by have := HLn.out; have := HPQ.out; omega) C T.length
                    rw [← HPQ.out, HXe.out, HYe.out] at h2
                    rw [h2] at h1
                    exact h1
                  have BW7 : Hid (Below w2.heap.size w2 W7) := by show Below _ _ _; rw [hW7]; exact set2_below BW6.out hg4 _ _ _
                  unfold set2 at hW7
                  simp only [← hW7]
                  clear hW7 P6 BW6 O6
                  try simp only [← hsa]
                  go_roundw
                  case rel => exact ⟨p', by have := HPQ.out; omega, by first | rfl | go_num, O7, fun i h1 h2 => by
                    by_cases e : i = p'
                    · rw [e]; exact HXX.out
                    · exact HG.out i (by have := HPQ.out; omega) h2, BW7⟩
                  case measure => have := HPQ.out; simp [intOf]; omega
                · obtain ⟨W5, hW5⟩ : ∃ W5, W5 = ((W4.alloc (.cells #[.int .u8 (C.toNat : Int), .int .i64 T.length] 52)).alloc (.cells #[.int .u8 (X.toNat : Int), .int .i64 Y] 52)).drew := ⟨_, rfl⟩
                  have tb := two_boxes W4 (.cells #[.int .u8 (C.toNat : Int), .int .i64 T.length] 52) (.cells #[.int .u8 (X.toNat : Int), .int .i64 Y] 52)
                  have hB5 : Below W4.heap.size W4 W5 := by rw [hW5]; exact tb.1.drew
                  obtain ⟨bx, hbx⟩ : ∃ bx, bx = W4.heap.size + 1 := ⟨_, rfl⟩
                  obtain ⟨bz, hby⟩ : ∃ bz, bz = W4.heap.size := ⟨_, rfl⟩
                  have P5 : Hid (W5.heap[bx]? = some (.cells #[.int .u8 (X.toNat : Int), .int .i64 Y] 52)) := by show _ = _; rw [hW5, hbx]; exact tb.2.2
                  have R5 : Hid (W5.heap[bz]? = some (.cells #[.int .u8 (C.toNat : Int), .int .i64 T.length] 52)) := by show _ = _; rw [hW5, hby]; exact tb.2.1
                  have hnx : bx ≠ g4 := by omega
                  have hny : bz ≠ g4 := by omega
                  simp only [← hW5, ← hbx]
                  simp only [← hby]
                  clear hW5 tb hbx hby
                  have O5 := hideH (own_on O4.out hB5)
                  have BW5 := hideH (bthen BW4.out hB5)
                  clear hB5 O4 BW4
                  rename ∀ (a : Act) (w : World), _ → _ => hcont
                  refine hcont _ _ ?_
                  clear hcont
                  refine wp_seq_k (fun K0 hK0 => ?_)
                  have HK0 := hideH hK0
                  clear hK0
                  obtain ⟨y0, y1⟩ := cell2 R5.out
                  obtain ⟨cu0, cu1⟩ := put_ahead E (p := p') (by have := HLn.out; have := HPQ.out; omega) C T.length
                  rw [← HPQ.out, ← O5.out.cellAt _ (by have := HPQ.out; omega)] at cu0 cu1
                  have f0 := O5.out.frozenAt (p' * 2)
                  have f1 := O5.out.frozenAt (p' * 2 + 1)
                  go_wp2_with fail
                  refine HK0.out _ _ ?_
                  clear HK0 y0 y1 cu0 cu1 f0 f1
                  obtain ⟨W6, hW6⟩ : ∃ W6, W6 = set2 W5 g4 (p' * 2) C T.length := ⟨_, rfl⟩
                  have O6 := hideH (set2_own O5.out (p' * 2) C T.length)
                  rw [← hW6] at O6
                  have P6 : Hid (W6.heap[bx]? = some (.cells #[.int .u8 (X.toNat : Int), .int .i64 Y] 52)) := by show _ = _; rw [hW6, set2_other hnx]; exact P5.out
                  have BW6 : Hid (Below w2.heap.size w2 W6) := by show Below _ _ _; rw [hW6]; exact set2_below BW5.out hg4 _ _ _
                  unfold set2 at hW6
                  simp only [← hW6]
                  clear hW6 P5 R5 BW5 O5
                  obtain ⟨x0, x1⟩ := cell2 P6.out
                  obtain ⟨cv0, cv1⟩ := put_here E (p := q) (by have := HLn.out; omega) C T.length
                  have cz0 : W6.cell? ⟨g4, q * 2, none⟩ = some (.int .u8 (C.toNat : Int)) := by
                    rw [O6.out.cellAt _ (by omega), List.getElem?_set_ne (by have := HPQ.out; omega), List.getElem?_set_ne (by have := HPQ.out; omega)]
                    exact cv0
                  have cz1 : W6.cell? ⟨g4, q * 2 + 1, none⟩ = some (.int .i64 T.length) := by
                    rw [O6.out.cellAt _ (by omega), List.getElem?_set_ne (by have := HPQ.out; omega), List.getElem?_set_ne (by have := HPQ.out; omega)]
                    exact cv1
                  clear cv0 cv1
                  have f0 := O6.out.frozenAt (q * 2)
                  have f1 := O6.out.frozenAt (q * 2 + 1)
                  go_wp2_with fail
                  clear x0 x1 cz0 cz1 f0 f1
                  obtain ⟨W7, hW7⟩ : ∃ W7, W7 = set2 W6 g4 (q * 2) X Y := ⟨_, rfl⟩
                  have O7 : Hid (W7.ownsRow w2.heap.size 52 2 (.slice (some ⟨g4, 0, none⟩) (L + 1) q4) (L + 1) (ecells (put1 E p' C T.length))) := by
                    have h1 := set2_own O6.out (q * 2) X Y
                    rw [← hW7] at h1
                    have h2 := put_back E (p := p') (by have := HLn.out; have := HPQ.out; omega) C T.length
                    rw [← HPQ.out, HXe.out, HYe.out] at h2
                    rw [h2] at h1
                    exact h1
                  have BW7 : Hid (Below w2.heap.size w2 W7) := by show Below _ _ _; rw [hW7]; exact set2_below BW6.out hg4 _ _ _
                  unfold set2 at hW7
                  simp only [← hW7]
                  clear hW7 P6 BW6 O6
                  try simp only [← hsa]
                  go_roundw
                  case rel => exact ⟨p', by have := HPQ.out; omega, by first | rfl | go_num, O7, fun i h1 h2 => by
                    by_cases e : i = p'
                    · rw [e]; exact HXX.out
                    · exact HG.out i (by have := HPQ.out; omega) h2, BW7⟩
                  case measure => have := HPQ.out; simp [intOf]; omega
              · have HCn : Hid (q = cnt E C) := by
                  show _ = _
                  refine (cnt_stop HR.out HED.out (by have := HLn.out; omega) ?_ ?_).symm
                  · rcases Nat.eq_zero_or_pos q with h | h
                    · exact .inl h
                    · exact .inr (fun h2 => hx ⟨h, h2⟩)
                  · intro i h1 h2
                    exact HG.out i h1 (by rw [HLn.out]; exact h2)
                have HQL : Hid (q = 0 ∨ 0 < q) := by show _ ∨ _; omega
                have hxx : 0 < q → ¬ (C < eC E (q - 1)) := fun h h2 => hx ⟨h, h2⟩
                have HXX := hideH hxx
                clear hx hxx
                have O4 : Hid (∀ W, Below wr.heap.size wr W → OwT (W.setCell ⟨g, a' * 2, none⟩ (.slice (some ⟨g4, 0, none⟩) (L + 1) q4)) w.heap.size (.slice (some ⟨g, 0, none⟩) T.length cap) (fun j => if j = a' then (.slice (some ⟨g4, 0, none⟩) (L + 1) q4) else vs j) (T.set a' ⟨put1 E (cnt E C) C T.length, (nod T a').wd⟩)) := fun W hW => by
                  refine OwT.edge2 HOw.out hal (bthen HV.out hW) ?_ hg4
                  rw [← HCn.out, put1_len _ _ _ _ (by have := HLn.out; omega), ← HLn.out]
                  exact owns_mono (own_on HO3.out hW) HBq.out.size
                have B4 : Hid (∀ W v, Below wr.heap.size wr W → Below w.heap.size w (W.setCell ⟨g, a' * 2, none⟩ v)) := fun W v hW => (HBq.out.trans ((bthen HV.out hW).mono HBq.out.size)).setCell (p := ⟨g, a' * 2, none⟩) hbg _
                rcases HQL.out with hq0 | hq0
                focus
                  clear HQL HXX
                  subst hq0
                  go_wp2_with fail
                  go_quiet (fail)
                rotate_left
                focus
                  clear HQL
                  obtain ⟨p', hpq⟩ : ∃ p', q = p' + 1 := ⟨q - 1, by omega⟩
                  have hxx : ¬ (C < eC E p') := by have := HXX.out hq0; rwa [show q - 1 = p' by omega] at this
                  clear HXX
                  obtain ⟨cu0, cu1⟩ := put_ahead E (p := p') (by have := HLn.out; omega) C T.length
                  obtain ⟨cv0, cv1⟩ := put_here E (p := q) (by have := HLn.out; omega) C T.length
                  rw [← hpq] at cu0 cu1
                  rw [← HO3.out.cellAt _ (by omega)] at cu0 cu1 cv0 cv1
                  have hwp : IntKind.i64.wrap ((q : Int) - 1) = (p' : Int) := by rw [wrap_nn (by omega) (by omega)]; omega
                  have hp0 : decide ((p' : Int) < 0) = false := by simp
                  have hqq0 : decide ((q : Int) < 0) = false := by simp
                  have hgi : (0 : Int) < (q : Int) := by omega
                  have hpd : decide (L + 1 ≤ p') = false := by simp; omega
                  have hqd : decide (L + 1 ≤ q) = false := by simp; omega
                  have hpi : (p' : Int) < ((L + 1 : Nat) : Int) := by omega
                  have hpi2 : (p' : Int) < (L : Int) + 1 := by omega
                  have hqi : (q : Int) < ((L + 1 : Nat) : Int) := by omega
                  have hqi2 : (q : Int) < (L : Int) + 1 := by omega
                  have hb1 := (eC E p').toNat_lt
                  have hb2 := C.toNat_lt
                  have hlt2 : ¬ ((C.toNat : Int) < ((eC E p').toNat : Int)) := by rw [UInt8.lt_iff_toNat_lt] at hxx; omega
                  clear hxx hpq
                  generalize eC E p' = X at cu0 hlt2 hb1
                  generalize eT E p' = Y at cu1
                  go_wp2_with fail
                  go_quiet (fail)
                  clear cu0 cu1 cv0 cv1
                all_goals
                  obtain ⟨W5, hW5⟩ : ∃ W5, W5 = wr.drewN nq := ⟨_, rfl⟩
                  have hB5 : Below wr.heap.size wr W5 := by rw [hW5]; exact below_drewN (Below.refl _ _) _
                  simp only [← hW5]
                  clear hW5
                  have d6 := cell_on d5 hB5
                  have hgw5 : g < wr.heap.size := by have := HV.out.size; omega
                  have fz6 : W5.frozen? ⟨g, a' * 2, none⟩ = false := by rw [hB5.frozen (p := ⟨g, a' * 2, none⟩) hgw5]; exact fz5
                  have O6 := hideH (O4.out W5 hB5)
                  have B6 := hideH (B4.out W5 (.slice (some ⟨g4, 0, none⟩) (L + 1) q4) hB5)
                  generalize (fun j => if j = a' then (Value.slice (some ⟨g4, 0, none⟩) (L + 1) q4) else vs j) = VS at O6
                  clear hB5 d5 fz5 O4 B4
                  have HBn : Hid (Below (W5.setCell ⟨g, a' * 2, none⟩ (.slice (some ⟨g4, 0, none⟩) (L + 1) q4)).heap.size (W5.setCell ⟨g, a' * 2, none⟩ (.slice (some ⟨g4, 0, none⟩) (L + 1) q4)) ((W5.setCell ⟨g, a' * 2, none⟩ (.slice (some ⟨g4, 0, none⟩) (L + 1) q4)).alloc (.cells #[.slice none 0 0, .int .i64 (-1)] 47))) := (Below.refl _ _).alloc (Nat.le_refl _) _
                  have O7 := hideH (O6.out.on HBn.out)
                  have R7 : Hid (((W5.setCell ⟨g, a' * 2, none⟩ (.slice (some ⟨g4, 0, none⟩) (L + 1) q4)).alloc (.cells #[.slice none 0 0, .int .i64 (-1)] 47)).ownsRow w.heap.size 47 2 (.slice (some ⟨g, 0, none⟩) T.length cap) T.length (ncells VS (T.set a' ⟨put1 E (cnt E C) C T.length, (nod T a').wd⟩) T.length)) := by
                    have := O7.out.row
                    rw [List.length_set] at this
                    exact this
                  have HNw : Hid (∀ j u, [Value.slice none 0 0, Value.int .i64 (-1)][j]? = some u → ((W5.setCell ⟨g, a' * 2, none⟩ (.slice (some ⟨g4, 0, none⟩) (L + 1) q4)).alloc (.cells #[.slice none 0 0, .int .i64 (-1)] 47)).cell? ((⟨W5.heap.size, 0, none⟩ : Addr).add j) = some u) := by
                    have h := World.news_of_block (World.alloc_heap_new (W5.setCell ⟨g, a' * 2, none⟩ (.slice (some ⟨g4, 0, none⟩) (L + 1) q4)) (.cells #[.slice none 0 0, .int .i64 (-1)] 47))
                    rw [show (W5.setCell ⟨g, a' * 2, none⟩ (.slice (some ⟨g4, 0, none⟩) (L + 1) q4)).heap.size = W5.heap.size by simp] at h
                    exact h
                  have HBs : Hid (w.heap.size ≤ ((W5.setCell ⟨g, a' * 2, none⟩ (.slice (some ⟨g4, 0, none⟩) (L + 1) q4)).alloc (.cells #[.slice none 0 0, .int .i64 (-1)] 47)).heap.size) := by
                    have h1 := B6.out.size
                    have h3 := HBn.out.size
                    show _ ≤ _
                    omega
                  go_wp2_with (at_builtin; refine wpList_append_lies _ rfl _ _ 23 rfl w.heap.size 47 i0 _ 2 32 Try.underlying23 hi hz0 hz1 hz2 rfl (by decide) _ _ _ rfl R7.out ⟨W5.heap.size, 0, none⟩ 1 1 [.slice none 0 0, .int .i64 (-1)] rfl rfl HNw.out (by simp [Value.oneCell']) (by decide) (by unfold maxLen; omega) (by omega) HBs.out _ rfl ?_; intro g8 q8 w8 hown8 hgrow8 hat8 hl8)
                  have HI8 : Hid (bJ w.heap.size w t s (grow T a' s[m]) (.slice (some ⟨g8, 0, none⟩) (grow T a' s[m]).length q8) (m + 1) T.length w8) := by
                    have h5 := OwT.node (g := g8) (cap := q8) O7.out hgrow8 (by rw [List.length_set]; exact hown8) hat8 (Nat.le_refl _)
                    rw [HC.out, HE.out, ← grow_put, List.length_set] at h5
                    rw [grow_len]
                    have hed := HED.out
                    rw [HE.out, HC.out] at hed
                    exact bJ_next hms h5 HK2.out HPp.out HLy.out hed HTl.out HWd.out (below_own (B6.out.trans (HBn.out.mono (by have := B6.out.size; omega))) (Nat.le_refl _) R7.out hgrow8)
                  clear hown8 hgrow8 hat8 hl8 O6 O7 R7 HBn HNw HBs B6
                  try simp only [← hsa]
                  go_roundw
                  case rel => exact ⟨grow T a' s[m], m + 1, T.length, g8, q8, by omega, by rw [grow_len], by go_num, rfl, HI8⟩
                  case measure => simp [intOf]; omega
        · have hme : m = s.size := by omega
          have HEnd : Hid (bldN (wl n ss) (i + 1) = mark T a' i) := by
            show _ = _
            rw [HNx.out]
            unfold addw
            rw [hlay, List.drop_of_length_le (by rw [sz_len]; omega)]
            rfl
          have f1 := hfz (a' * 2 + 1)
          have hw0 := hwd a'
          have HO2 := hideH hO
          have HB2 := hideH hbel
          have hni : ¬ ((m : Int) < (s.size : Int)) := by omega
          clear hO hk hp hlay hTl hwd hbel hcells hfz HA d0 hmi hme
          by_cases hq : (nod T a').wd = -1
          · have HE2 : Hid (bldN (wl n ss) (i + 1) = T.set a' ⟨(nod T a').es, i⟩) := by show _ = _; rw [HEnd.out]; unfold mark; rw [if_pos hq]
            rw [hq] at d1
            clear hq HEnd hw0
            have O9 : Hid (OwT (wr.setCell ⟨g, a' * 2 + 1, none⟩ (.int .i64 i)) w.heap.size (.slice (some ⟨g, 0, none⟩) T.length cap) vs (bldN (wl n ss) (i + 1))) := by
              show OwT _ _ _ _ _
              rw [HE2.out]
              exact HO2.out.word i hal
            have B9 : Hid (Below w.heap.size w (wr.setCell ⟨g, a' * 2 + 1, none⟩ (.int .i64 i))) := HB2.out.setCell (p := ⟨g, a' * 2 + 1, none⟩) hbg _
            go_wp2_with fail
            try simp only [← hsa]
            go_roundw
            case rel => exact ⟨i + 1, vs, by omega, by go_num, O9, B9⟩
            case measure => simp [intOf]; omega
          · have HE2 : Hid (OwT wr w.heap.size (.slice (some ⟨g, 0, none⟩) T.length cap) vs (bldN (wl n ss) (i + 1))) := by show OwT _ _ _ _ _; rw [HEnd.out]; unfold mark; rw [if_neg hq]; exact HO2.out
            have hq0 : ¬ ((nod T a').wd < 0) := by omega
            generalize (nod T a').wd = wd at d1 hq0
            clear hq HEnd hw0
            go_wp2_with fail
            try simp only [← hsa]
            go_roundw
            case rel => exact ⟨i + 1, vs, by omega, by go_num, HE2, HB2⟩
            case measure => simp [intOf]; omega
    · obtain rfl : i = n := by omega
      have hni : ¬ ((i : Int) < (i : Int)) := by omega
      go_wp2_with fail
      go_ret
      unfold adP
      exact ⟨_, vs0, rfl, HO.out, HW.out⟩
end Go.Proofs.Ythkdjklpegmnnaa.Tri
