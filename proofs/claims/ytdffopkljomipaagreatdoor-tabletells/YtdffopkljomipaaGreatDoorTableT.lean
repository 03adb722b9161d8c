/- The document's own CompileOf. -/
import Derived.Test.YtdffopkljomipaaGreatDoorTableS
import Derived.Test.YtdffopkljomipaaGreatDoorTableK
import Derived.Test.YtdffopkljomipaaGreatDoorRefJAll
import Derived.Test.YtdffopkljomipaaGreatDoorRefWAll
import Derived.Test.YtdffopkljomipaaGreatDoorOffCAll
import Derived.Deep.CutRange
import Derived.Deep.RegionHeld3
import Derived.Deep.RegionHeldLaw
import Derived.Deep.AppendLies
namespace Go.Proofs.YtdffopkljomipaaGreatDoor
open Go Go.RowKit Go.Maps
set_option linter.unusedVariables false

theorem ylL_len {r : Rl} (h : rchk r = 0) (std : Int) : (ylL r std).length ≤ 60 := by
  have hb := bnd_of (rchk_bnd h)
  unfold ylL ylN
  simp
  omega
theorem arN_len {D : Dt} {x : Er} : ∀ m, (∀ i, i < m → rchk ((D.ss x.set.toNat).rs i) = 0) → (arN D x m).length ≤ 60 * m
  | 0, _ => by simp [arN]
  | m + 1, h => by
    have h1 := arN_len (D := D) (x := x) m (fun i hi => h i (by omega))
    have h2 := ylL_len (h m (by omega)) x.std
    rw [arN_succ, List.length_append]
    omega
theorem esN_len {D : Dt} (hc : chkE D = 0) {k : Nat} (hk : k < D.nz) : ∀ m, m ≤ (D.zs k).n → (esN D k m).length ≤ 241 * m
  | 0, _ => by simp [esN]
  | m + 1, h => by
    have h1 := esN_len hc hk m (by omega)
    have hb := ebd (chk_era hc hk (show m < (D.zs k).n by omega))
    rw [esN_succ, List.length_append]
    have h2 : (erT D ((D.zs k).es m)).length ≤ 241 := by
      unfold erT
      split
      · rename_i hs
        have hsn : ((D.zs k).es m).set.toNat < D.ns := by omega
        have h4 := ((chk_all hc).1.2.1 _ hsn).2
        have := arN_len (D := D) (x := (D.zs k).es m) (D.ss ((D.zs k).es m).set.toNat).n (fun i hi => chk_rule hc hsn hi)
        simp only [List.length_cons]
        omega
      · simp
    omega
theorem tim_len {D : Dt} (hc : chkE D = 0) {k : Nat} (hk : k < D.nz) : (timT D k).length ≤ 1000 := by
  have h1 := putsT_len (0 :: esN D k (D.zs k).n) []
  have h2 := esN_len hc hk _ (Nat.le_refl _)
  have h3 := ((chk_all hc).1.2.2 k hk).2
  unfold timT
  simp only [List.length_cons, List.length_nil] at h1
  omega
/-- what was picked of the first j times -/
def pkN (D : Dt) (k j : Nat) : List (Int × Of) := Tab.pickL oeq (offR D k) ((timT D k).take j)
theorem tim_first (D : Dt) (k : Nat) : 0 < (timT D k).length ∧ (timT D k).getD 0 0 = 0 ∧ ∀ j, 0 < j → j < (timT D k).length → 0 < (timT D k).getD j 0 := by
  have h0 := tim_zero D k
  have hu := List.pairwise_iff_getElem.1 (tim_up D k)
  have hl := List.length_pos_of_mem h0
  have hi : ∀ j (h : j < (timT D k).length), 0 ≤ (timT D k)[j] := fun j h => (tim_in (List.getElem_mem h)).1
  have e0 : (timT D k)[0] = 0 := by
    obtain ⟨j, hj, he⟩ := List.getElem_of_mem h0
    by_cases hj0 : j = 0
    · subst hj0; exact he
    · have h1 := hu 0 j hl hj (by omega)
      have h2 := hi 0 hl
      omega
  refine ⟨hl, by simp [hl, e0], fun j h1 h2 => ?_⟩
  have := hu 0 j hl h2 h1
  simp [h2]
  omega
theorem pk_succ (D : Dt) (k : Nat) {j : Nat} (hj : j < (timT D k).length) : pkN D k (j + 1) = pkN D k j ++ (if (decide (j = 0) || !oeq (offR D k ((timT D k).getD j 0 - 1)) (offR D k ((timT D k).getD j 0))) = true then [((timT D k).getD j 0, offR D k ((timT D k).getD j 0))] else []) := by
  obtain ⟨hl, e0, hp⟩ := tim_first D k
  have e1 : (timT D k).take (j + 1) = (timT D k).take j ++ [(timT D k).getD j 0] := by
    rw [List.take_add_one, List.getElem?_eq_getElem hj]
    simp [hj]
  unfold pkN Tab.pickL
  rw [e1, List.filter_append, List.map_append]
  congr 1
  have hz : ((timT D k).getD j 0 == 0) = decide (j = 0) := by
    by_cases e : j = 0
    · subst e
      rw [e0]
      simp
    · have := hp j (by omega) hj
      rw [decide_eq_false e, beq_eq_false_iff_ne]
      omega
  generalize (timT D k).getD j 0 = t at hz
  rw [← hz]
  by_cases c : (t == 0 || !oeq (offR D k (t - 1)) (offR D k t)) = true
  · rw [if_pos c, List.filter_cons_of_pos (p := fun t => t == 0 || !oeq (offR D k (t - 1)) (offR D k t)) c]
    rfl
  · rw [if_neg c, List.filter_cons_of_neg (p := fun t => t == 0 || !oeq (offR D k (t - 1)) (offR D k t)) c]
    rfl
theorem pk_all {D : Dt} (hc : chkE D = 0) {k : Nat} (hk : k < D.nz) : pkN D k (timT D k).length = cmpT D k := by
  unfold pkN
  rw [List.take_length]
  exact tim_pick hc hk
theorem pk_len (D : Dt) (k : Nat) : ∀ j, j ≤ (timT D k).length → (pkN D k j).length ≤ j
  | 0, _ => by simp [pkN, Tab.pickL]
  | j + 1, h => by
    have h1 := pk_len D k j (by omega)
    rw [pk_succ D k (by omega), List.length_append]
    split
    · simp; omega
    · simp; omega
set_option maxRecDepth 100000 in
set_option maxHeartbeats 8000000 in
theorem CompileOf_ok (D : Dt) (s : ByteArray) (k : Nat) (w : World) (hD : DAt w D) (hF : D.fits) (hs : s.size ≤ maxLen) (h0 : zonE D s = 0) (hk : zonR D s = k) (hkz : k < D.nz) :
    Calls Tryz.prog 9 #[D.v, .string s] w fun e w' => ∃ v, e = .returned (.tuple #[v, .int .i64 0]) ∧ w'.ownsRow w.heap.size 41 4 v (cmpT D k).length (trc (cmpT D k)) ∧ Below w.heap.size w w' := by
  have hc := (zon_ok h0).1
  have HD := hideH hD
  have hb0 := hideH ((Below.refl _ w).alloc (Nat.le_refl _) (.cells (dC D) 26))
  have hc0 := hideH (World.alloc_heap_new w (.cells (dC D) 26))
  have HZ := hideH (ZoneOf_c D s _ (HD.out.on hb0.out) hF hs)
  rw [h0, hk] at HZ
  have HT : Hid (∀ v, Below w.heap.size w v → Calls Tryz.prog 20 #[D.v, .int .i64 k] v fun e w' => riP (timT D k) v e w') := fun v hv => times_c D k v (HD.out.on hv) hc hkz
  have HHo : Hid (∀ (t : Int) v, 0 ≤ t → t < 1893456000 → Below w.heap.size w v → Calls Tryz.prog 21 #[D.v, .int .i64 k, .int .i64 t] v fun e w' => e = .returned (offR D k t).v ∧ Below v.heap.size v w') := fun t v t0 t1 hv => holds_c D k t v (HD.out.on hv) hc hkz t0 t1
  have HL := tim_len hc hkz
  have HTi : Hid (∀ j, j < (timT D k).length → 0 ≤ (timT D k).getD j 0 ∧ (timT D k).getD j 0 < 1893456000) := fun j hj => by
    have := tim_in (List.getElem_mem hj)
    simp [hj]
    omega
  have HTf := hideH (tim_first D k).2.2
  have HPs := hideH (fun j (hj : j < (timT D k).length) => pk_succ D k hj)
  have HPa := hideH (pk_all hc hkz)
  have HPl := hideH (pk_len D k)
  have HP0 : Hid (pkN D k 0 = []) := rfl
  rw [← HPa.out]
  obtain ⟨i0, hi, hz0, hz1, hz2⟩ := info_parts info_turn
  obtain ⟨L, hLL⟩ : ∃ L, L = timT D k := ⟨_, rfl⟩
  rw [← hLL] at HT HL HTi HTf HPs HPl ⊢
  obtain ⟨pk, hpk⟩ : ∃ pk, pk = pkN D k := ⟨_, rfl⟩
  rw [← hpk] at HPs HPl HP0 ⊢
  clear hD hF hs h0 hk hc hLL hpk HPa
  obtain ⟨f, hf⟩ : ∃ f, f = offR D k := ⟨_, rfl⟩
  rw [← hf] at HHo HPs
  clear hf
  obtain ⟨N, hN⟩ : ∃ N, N = L.length := ⟨_, rfl⟩
  have HNl := hideH hN
  rw [← hN] at HL HTi HTf HPs HPl ⊢
  clear hN
  go_enter Tryz.func9, Tryz.ntmps9
  go_wp2_with fail
  refine HZ.out.mono ?_
  rintro e w1 ⟨rfl, hw1⟩
  have H1 := hideH (bthen hb0.out hw1)
  have C1 := hideH (heap_on hc0.out hw1)
  clear hw1 hb0 hc0 HZ
  obtain ⟨c0, c1, c2⟩ := cells3 C1.out
  go_wp2_with fail
  refine (HT.out _ H1.out).mono ?_
  rintro e w2 ⟨v, rfl, ho, hw2⟩
  have H2 := hideH (bthen H1.out hw2)
  have C2 := hideH (heap_on C1.out hw2)
  have hbs : w.heap.size ≤ w1.heap.size := H1.out.size
  have O2 := hideH (owns_mono ho hbs)
  clear hw2 ho C1 H1 c0 c1 c2 hbs HT
  rw [← HNl.out] at O2
  obtain ⟨la, lc, rfl, hll, hnews⟩ := own_news O2.out
  clear hll hnews
  have HC : Hid (∀ j, j < N → ∃ g, la = some ⟨g, 0, none⟩ ∧ w.heap.size ≤ g ∧ ∀ i, i < N → w2.cell? ⟨g, i, none⟩ = some (.int .i64 (L.getD i 0))) := fun j hj => by
    rcases O2.out.2 with ⟨e, h0⟩ | ⟨g, cap, cur, e, hgb, _⟩
    · omega
    · injection e with e1 e2 e3
      subst e1
      refine ⟨g, rfl, hgb, fun i hi => ?_⟩
      have := O2.out
      rw [show lc = cap from e3] at this
      have hi2 : i < L.length := by rw [← HNl.out]; exact hi
      rw [this.cellAt i (by omega), List.getElem?_map, List.getElem?_eq_getElem hi2]
      simp [hi2]
  go_wp2_with fail
  go_loopw [9, 10] (fun x9 x10 W => ∃ (j : Nat) (va : Option Addr) (vc : Nat), j ≤ N ∧ x9 = .slice va (pk j).length vc ∧ x10 = .int .i64 j ∧ Hid (Below w.heap.size w W ∧ Below w2.heap.size w2 W ∧ W.heap[w.heap.size]? = some (.cells #[.slice D.sa D.ns D.sc, .slice D.za D.nz D.zc, .slice D.la D.nl D.lc] 26)) ∧ Hid (W.ownsRow w2.heap.size 41 4 (.slice va (pk j).length vc) (pk j).length (trc (pk j)))) (fun _ x10 _ => N - (intOf x10).toNat)
  case atStart => exact ⟨0, none, 0, Nat.zero_le _, by rw [HP0.out]; rfl, rfl, ⟨H2.out, Below.refl _ _, C2.out⟩, by show World.ownsRow _ _ _ _ _ _ _; rw [HP0.out]; exact World.ownsRow_nil _ _ _ _⟩
  case round =>
    obtain ⟨j, va, vc, hj, rfl, rfl, Q5, O5⟩ := hrel
    by_cases hlt : j < N
    · obtain ⟨g, rfl, hgb, hcs⟩ := HC.out j hlt
      have ck := cell_on (hcs j hlt) Q5.out.2.1
      obtain ⟨c0, c1, c2⟩ := cells3 Q5.out.2.2
      have HDB := hideH Q5.out.2.2
      have htt := HTi.out j hlt
      have HSu := hideH (HPs.out j hlt)
      have HCk := hideH (hcs j hlt)
      have htf := HTf.out j
      have hlp := HPl.out j hj
      obtain ⟨t, ht⟩ : ∃ t, t = L.getD j 0 := ⟨_, rfl⟩
      rw [← ht] at ck htt HSu HCk htf
      have HH := hideH (fun v hv => HHo.out t v htt.1 htt.2 hv)
      have HH1 := hideH (fun v (h : 0 < t) hv => HHo.out (t - 1) v (by omega) (by omega) hv)
      clear ht hcs
      obtain ⟨R, hR⟩ : ∃ R, R = f t := ⟨_, rfl⟩
      obtain ⟨R1, hR1⟩ : ∃ R1, R1 = f (t - 1) := ⟨_, rfl⟩
      rw [← hR] at HH HSu
      rw [← hR1] at HH1 HSu
      clear hR hR1
      obtain ⟨rt, rs, ra⟩ := R
      obtain ⟨qt, qs, qa⟩ := R1
      simp only [Of.v] at HH HH1
      have hk0 : decide ((j : Int) < 0) = false := by simp
      have hkn : decide (N ≤ j) = false := by simp; omega
      have hki : (j : Int) < (N : Int) := by omega
      have l1 := cell_lt c0
      have l2 := cell_lt ck
      go_upto_region 9 with fail
      go_cut [11] from 30 to 36 (fun x11 wx => ∃ B, x11 = .pointer (some ⟨B, 0, none⟩) ∧ Hid (Below wr.heap.size wr wx) ∧ Hid (wx.heap[B]? = some (.cells #[.int .i64 rt, .int .i64 rs, .string ra] 32)))
      case first =>
        have KS : Hid (∀ v : World, Below wr.heap.size wr v → v.cell? ⟨w.heap.size, 0, none⟩ = some (.slice D.sa D.ns D.sc) ∧ v.cell? ⟨w.heap.size, 1, none⟩ = some (.slice D.za D.nz D.zc) ∧ v.cell? ⟨w.heap.size, 2, none⟩ = some (.slice D.la D.nl D.lc) ∧ v.cell? ⟨g, j, none⟩ = some (.int .i64 t)) := fun v hv => ⟨cell_on c0 hv, cell_on c1 hv, cell_on c2 hv, cell_on ck hv⟩
        have hbz := (Below.refl _ wr).alloc (Nat.le_refl _) (.cells #[.int .i64 0, .int .i64 0, .string ⟨#[]⟩] 32)
        have BR := (Below.refl wr.heap.size wr).drew
        go_region_held3 (fun v => v.cell? ⟨w.heap.size, 0, none⟩ = some (.slice D.sa D.ns D.sc) ∧ v.cell? ⟨w.heap.size, 1, none⟩ = some (.slice D.za D.nz D.zc) ∧ v.cell? ⟨w.heap.size, 2, none⟩ = some (.slice D.la D.nl D.lc) ∧ v.cell? ⟨g, j, none⟩ = some (.int .i64 t))
          (first
            | (exact ⟨c0, c1, c2, ck⟩)
            | (exact KS.out _ BR)
            | (exact KS.out _ hbz.drew)
            | (exact KS.out _ (bthen BR hw6))
            | (exact KS.out _ (bthen hbz.drew hw6))
            | (exact KS.out _ ((bthen BR hw6).alloc (bthen BR hw6).size _))
            | (exact KS.out _ ((((bthen hbz.drew hw6).setCell (p := ⟨wr.heap.size, 0, none⟩) (Nat.le_refl _) _).setCell (p := ⟨wr.heap.size, 1, none⟩) (Nat.le_refl _) _).setCell (p := ⟨wr.heap.size, 2, none⟩) (Nat.le_refl _) _))
            | go_keep)
          (first
            | (go_at_call 21; (first | refine (HH.out _ (by exact Q5.out.1.drew)).mono ?_ | refine (HH.out _ (by exact (Q5.out.1.alloc Q5.out.1.size _).drew)).mono ?_); rintro e w6 ⟨rfl, hw6⟩; try (have hz6 := heap_on (w := (wr.alloc (.cells #[.int .i64 0, .int .i64 0, .string ⟨#[]⟩] 32)).drew) (World.alloc_heap_new wr (.cells #[.int .i64 0, .int .i64 0, .string ⟨#[]⟩] 32)) hw6; obtain ⟨s0, s1, s2⟩ := cells3 hz6; have y0 := frozen3 hz6 0; have y1 := frozen3 hz6 1; have y2 := frozen3 hz6 2)))
        all_goals
          go_wp2_with fail
          go_meet
          case rel =>
            first
              | (obtain ⟨k1, k2, -, -⟩ := meetA (w := wr) (v := wr.drew) BR hw6 HDB.out HDB.out (.cells #[.int .i64 rt, .int .i64 rs, .string ra] 32); exact ⟨_, rfl, k1, k2⟩)
              | (obtain ⟨k1, k2, -, -⟩ := meetB (w := wr) (Below.refl _ wr) hw6 HDB.out HDB.out (.int .i64 rt) (.int .i64 rs) (.string ra); exact ⟨_, rfl, k1, k2⟩)
      case rest =>
        obtain ⟨B, rfl, HW6, HB6⟩ := hcut
        rename World => wb
        have Q6 : Hid (Below w.heap.size w wb ∧ Below w2.heap.size w2 wb ∧ wb.heap[w.heap.size]? = some (.cells #[.slice D.sa D.ns D.sc, .slice D.za D.nz D.zc, .slice D.la D.nl D.lc] 26)) := ⟨bthen Q5.out.1 HW6.out, bthen Q5.out.2.1 HW6.out, heap_on Q5.out.2.2 HW6.out⟩
        have O6 := hideH (own_onT O5.out HW6.out)
        clear c0 c1 c2 ck HDB Q5 O5 l1 l2 HW6 HH
        obtain ⟨c0, c1, c2⟩ := cells3 Q6.out.2.2
        obtain ⟨b0, b1, b2⟩ := cells3 HB6.out
        have ck := cell_on HCk.out Q6.out.2.1
        have hcase : (j = 0) ∨ (0 < j ∧ ((qt = rt ∧ qs = rs ∧ qa = ra) ∨ qt ≠ rt ∨ (qt = rt ∧ qs ≠ rs) ∨ (qt = rt ∧ qs = rs ∧ qa ≠ ra))) := by
          by_cases h1 : j = 0
          · exact .inl h1
          · refine .inr ⟨by omega, ?_⟩
            by_cases h2 : qt = rt
            · by_cases h3 : qs = rs
              · by_cases h4 : qa = ra
                · exact .inl ⟨h2, h3, h4⟩
                · exact .inr (.inr (.inr ⟨h2, h3, h4⟩))
              · exact .inr (.inr (.inl ⟨h2, h3⟩))
            · exact .inr (.inl h2)
        obtain ⟨bb, hbb⟩ : ∃ bb, bb = (decide (j = 0) || !oeq ⟨qt, qs, qa⟩ ⟨rt, rs, ra⟩) := ⟨_, rfl⟩
        have HSb : Hid (pk (j + 1) = pk j ++ if bb = true then [(t, ⟨rt, rs, ra⟩)] else []) := by show _ = _; rw [hbb]; exact HSu.out
        have HBb := hideH hbb
        clear HSu hbb
        go_upto_region 10 with fail
        go_cut [50] from 37 to 50 (fun x50 wx => x50 = .bool bb ∧ Hid (Below wb.heap.size wb wx))
        case first =>
          rcases hcase with h1 | ⟨h1, ⟨h2, h3, h4⟩ | h2 | ⟨h2, h3⟩ | ⟨h2, h3, h4⟩⟩
          · have e1 : bb = true := by rw [HBb.out, h1]; rfl
            subst e1 h1
            go_quiet (fail)
            go_wp2_with fail
            go_meet
            case rel => exact ⟨rfl, below_drewN (Below.refl _ wb) _⟩
          all_goals
            have ht0 : 0 < t := htf h1 hlt
            have hw1 : IntKind.i64.wrap (t - 1) = t - 1 := wrap_nnT (by omega) (by omega)
            have hj0 : ((j : Int) = 0) = False := eq_false (by omega)
            have hj1 : ((j : Int) == 0) = false := beq_eq_false_iff_ne.2 (by omega)
            have hj2 : ¬ (j = 0) := by omega
            have KS : Hid (∀ v : World, Below wb.heap.size wb v → v.cell? ⟨w.heap.size, 0, none⟩ = some (.slice D.sa D.ns D.sc) ∧ v.cell? ⟨w.heap.size, 1, none⟩ = some (.slice D.za D.nz D.zc) ∧ v.cell? ⟨w.heap.size, 2, none⟩ = some (.slice D.la D.nl D.lc) ∧ v.cell? ⟨g, j, none⟩ = some (.int .i64 t) ∧ v.cell? ⟨B, 0, none⟩ = some (.int .i64 rt) ∧ v.cell? ⟨B, 1, none⟩ = some (.int .i64 rs) ∧ v.cell? ⟨B, 2, none⟩ = some (.string ra)) := fun v hv => ⟨cell_on c0 hv, cell_on c1 hv, cell_on c2 hv, cell_on ck hv, cell_on b0 hv, cell_on b1 hv, cell_on b2 hv⟩
            have BR := (Below.refl wb.heap.size wb).drew
          · have e1 : bb = false := by rw [HBb.out, decide_eq_false hj2, (oeq_iff _ _).2 (by rw [h2, h3, h4])]; rfl
            subst e1 h2 h3 h4
            go_region_held3 (fun v => v.cell? ⟨w.heap.size, 0, none⟩ = some (.slice D.sa D.ns D.sc) ∧ v.cell? ⟨w.heap.size, 1, none⟩ = some (.slice D.za D.nz D.zc) ∧ v.cell? ⟨w.heap.size, 2, none⟩ = some (.slice D.la D.nl D.lc) ∧ v.cell? ⟨g, j, none⟩ = some (.int .i64 t) ∧ v.cell? ⟨B, 0, none⟩ = some (.int .i64 qt) ∧ v.cell? ⟨B, 1, none⟩ = some (.int .i64 qs) ∧ v.cell? ⟨B, 2, none⟩ = some (.string qa))
              (first | (exact KS.out _ BR) | (exact KS.out _ (bthen BR hw6)))
              (first | (go_at_call 21; (try rw [hw1]); refine (HH1.out _ ht0 (by exact Q6.out.1.drew)).mono ?_; rintro e w6 ⟨rfl, hw6⟩))
            all_goals
              go_wp2_with fail
              go_meet
              case rel => exact ⟨rfl, bthen BR hw6⟩
          · have e1 : bb = true := by
              rw [HBb.out, decide_eq_false hj2]
              cases e : oeq ⟨qt, qs, qa⟩ ⟨rt, rs, ra⟩ with
              | false => rfl
              | true => exact absurd (congrArg Of.tot ((oeq_iff _ _).1 e)) h2
            subst e1
            go_region_held3 (fun v => v.cell? ⟨w.heap.size, 0, none⟩ = some (.slice D.sa D.ns D.sc) ∧ v.cell? ⟨w.heap.size, 1, none⟩ = some (.slice D.za D.nz D.zc) ∧ v.cell? ⟨w.heap.size, 2, none⟩ = some (.slice D.la D.nl D.lc) ∧ v.cell? ⟨g, j, none⟩ = some (.int .i64 t) ∧ v.cell? ⟨B, 0, none⟩ = some (.int .i64 rt) ∧ v.cell? ⟨B, 1, none⟩ = some (.int .i64 rs) ∧ v.cell? ⟨B, 2, none⟩ = some (.string ra))
              (first | (exact KS.out _ BR) | (exact KS.out _ (bthen BR hw6)))
              (first | (go_at_call 21; (try rw [hw1]); refine (HH1.out _ ht0 (by exact Q6.out.1.drew)).mono ?_; rintro e w6 ⟨rfl, hw6⟩))
            all_goals
              go_wp2_with fail
              go_meet
              case rel => exact ⟨rfl, bthen BR hw6⟩
          · have e1 : bb = true := by
              rw [HBb.out, decide_eq_false hj2]
              cases e : oeq ⟨qt, qs, qa⟩ ⟨rt, rs, ra⟩ with
              | false => rfl
              | true => exact absurd (congrArg Of.sv ((oeq_iff _ _).1 e)) h3
            subst e1 h2
            go_region_held3 (fun v => v.cell? ⟨w.heap.size, 0, none⟩ = some (.slice D.sa D.ns D.sc) ∧ v.cell? ⟨w.heap.size, 1, none⟩ = some (.slice D.za D.nz D.zc) ∧ v.cell? ⟨w.heap.size, 2, none⟩ = some (.slice D.la D.nl D.lc) ∧ v.cell? ⟨g, j, none⟩ = some (.int .i64 t) ∧ v.cell? ⟨B, 0, none⟩ = some (.int .i64 qt) ∧ v.cell? ⟨B, 1, none⟩ = some (.int .i64 rs) ∧ v.cell? ⟨B, 2, none⟩ = some (.string ra))
              (first | (exact KS.out _ BR) | (exact KS.out _ (bthen BR hw6)))
              (first | (go_at_call 21; (try rw [hw1]); refine (HH1.out _ ht0 (by exact Q6.out.1.drew)).mono ?_; rintro e w6 ⟨rfl, hw6⟩))
            all_goals
              go_wp2_with fail
              go_meet
              case rel => exact ⟨rfl, bthen BR hw6⟩
          · have e1 : bb = true := by
              rw [HBb.out, decide_eq_false hj2]
              cases e : oeq ⟨qt, qs, qa⟩ ⟨rt, rs, ra⟩ with
              | false => rfl
              | true => exact absurd (congrArg Of.ab ((oeq_iff _ _).1 e)) h4
            have h5 : (qa.toList == ra.toList) = false := by
              rw [beq_eq_false_iff_ne]
              intro h
              rw [ByteArray.toList_eq, ByteArray.toList_eq] at h
              exact h4 (ByteArray.ext (Array.toList_inj.1 h))
            subst e1 h2 h3
            go_region_held3 (fun v => v.cell? ⟨w.heap.size, 0, none⟩ = some (.slice D.sa D.ns D.sc) ∧ v.cell? ⟨w.heap.size, 1, none⟩ = some (.slice D.za D.nz D.zc) ∧ v.cell? ⟨w.heap.size, 2, none⟩ = some (.slice D.la D.nl D.lc) ∧ v.cell? ⟨g, j, none⟩ = some (.int .i64 t) ∧ v.cell? ⟨B, 0, none⟩ = some (.int .i64 qt) ∧ v.cell? ⟨B, 1, none⟩ = some (.int .i64 qs) ∧ v.cell? ⟨B, 2, none⟩ = some (.string ra))
              (first | (exact KS.out _ BR) | (exact KS.out _ (bthen BR hw6)))
              (first | (go_at_call 21; (try rw [hw1]); refine (HH1.out _ ht0 (by exact Q6.out.1.drew)).mono ?_; rintro e w6 ⟨rfl, hw6⟩))
            all_goals
              go_wp2_with fail
              go_meet
              case rel => exact ⟨rfl, bthen BR hw6⟩
        case rest =>
          obtain ⟨rfl, HW7⟩ := hcut
          have Q7 : Hid (Below w.heap.size w wc ∧ Below w2.heap.size w2 wc ∧ wc.heap[w.heap.size]? = some (.cells #[.slice D.sa D.ns D.sc, .slice D.za D.nz D.zc, .slice D.la D.nl D.lc] 26)) := ⟨bthen Q6.out.1 HW7.out, bthen Q6.out.2.1 HW7.out, heap_on Q6.out.2.2 HW7.out⟩
          have O7 := hideH (own_onT O6.out HW7.out)
          have B7 := hideH (heap_on HB6.out HW7.out)
          clear c0 c1 c2 ck b0 b1 b2 Q6 O6 HB6 HW7 HBb hcase HH1
          cases bb
          · have e1 : pk (j + 1) = pk j := by rw [HSb.out]; simp
            go_wp2_with fail
            go_roundw
            case rel => exact ⟨j + 1, va, vc, by omega, by rw [e1], by go_num, Q7, by show World.ownsRow _ _ _ _ _ _ _; rw [e1]; exact O7.out⟩
            case measure => simp [intOf]; omega
          · have e1 : pk (j + 1) = pk j ++ [(t, ⟨rt, rs, ra⟩)] := by rw [HSb.out]; simp
            have HE1 := hideH e1
            clear e1
            have ck := cell_on HCk.out Q7.out.2.1
            obtain ⟨b0, b1, b2⟩ := cells3 B7.out
            have hgl : g < w2.heap.size := cell_lt HCk.out
            have KS : Hid (∀ v : World, Below wc.heap.size wc v → v.cell? ⟨g, j, none⟩ = some (.int .i64 t) ∧ v.cell? ⟨B, 0, none⟩ = some (.int .i64 rt) ∧ v.cell? ⟨B, 1, none⟩ = some (.int .i64 rs) ∧ v.cell? ⟨B, 2, none⟩ = some (.string ra)) := fun v hv => ⟨cell_on ck hv, cell_on b0 hv, cell_on b1 hv, cell_on b2 hv⟩
            have BR := (Below.refl wc.heap.size wc).drew
            have BZ := ((Below.refl _ wc).alloc (Nat.le_refl _) (.cells #[.int .i64 t, .int .i64 rt, .int .i64 rs, .string ra] 41)).drew
            have OZ := hideH (own_onT O7.out BZ)
            have ZB := hideH (heap_on B7.out BZ)
            have hs2 := Q7.out.2.1.size
            have KT : Hid (∀ w5, (wc.alloc (.cells #[.int .i64 t, .int .i64 rt, .int .i64 rs, .string ra] 41)).drew.grownBy w5 (Value.slice va (pk j).length vc).ownBlock → w5.cell? ⟨g, j, none⟩ = some (.int .i64 t) ∧ w5.cell? ⟨B, 0, none⟩ = some (.int .i64 rt) ∧ w5.cell? ⟨B, 1, none⟩ = some (.int .i64 rs) ∧ w5.cell? ⟨B, 2, none⟩ = some (.string ra)) := fun w5 hg5 => by
              have h1 : w5.cell? ⟨g, j, none⟩ = some (.int .i64 t) := by
                rw [World.cell?_of_block (hg5.block g (by simp; omega) (far_box OZ.out hgl))]
                exact (KS.out _ BZ).1
              exact ⟨h1, cells3 (heap_grown ZB.out hg5 (own_other OZ.out (fun cs' fr' e => by rw [ZB.out] at e; simp at e)))⟩
            go_upto_region 11 with fail
            go_region_held_law (fun v => v.cell? ⟨g, j, none⟩ = some (.int .i64 t) ∧ v.cell? ⟨B, 0, none⟩ = some (.int .i64 rt) ∧ v.cell? ⟨B, 1, none⟩ = some (.int .i64 rs) ∧ v.cell? ⟨B, 2, none⟩ = some (.string ra))
              (first | (exact KS.out _ BR) | (exact KS.out _ BZ) | (exact KT.out _ G5.out))
              (first | (refine step_append_row _ rfl _ _ 27 rfl w2.heap.size 41 i0 _ 4 40 Tryz.underlying27 hi hz0 hz1 hz2 rfl (by decide) (.slice va (pk j).length vc) (pk j).length (trc (pk j)) rfl OZ.out (some ⟨wc.heap.size, 0, none⟩) 1 1 [.int .i64 t, .int .i64 rt, .int .i64 rs, .string ra] rfl rfl (.inr ⟨_, rfl, World.news_of_block (World.alloc_heap_new wc _)⟩) (by simp [Value.oneCell']) (by unfold maxLen; omega) (by omega) (by simp; omega) ?_; intro v5 w5 hown5 hgrow5 hat5; have O5 := hideH hown5; have G5 := hideH hgrow5; clear hown5 hgrow5 hat5))
            all_goals
              have hBl := Q7.out.1.size
              have hB5 : Hid (Below w.heap.size w w5) := (bthen Q7.out.1 BZ).grown G5.out (by simp; omega) (fun q hq => by have := (own_lt OZ.out hq).1; have := H2.out.size; omega)
              have hB6 : Hid (Below w2.heap.size w2 w5) := (bthen Q7.out.2.1 BZ).grown G5.out (by simp; omega) (fun q hq => (own_lt OZ.out hq).1)
              have hD5 : Hid (w5.heap[w.heap.size]? = some (.cells #[.slice D.sa D.ns D.sc, .slice D.za D.nz D.zc, .slice D.la D.nl D.lc] 26)) := heap_grown (heap_on Q7.out.2.2 BZ) G5.out (far_box OZ.out (by have := (Array.getElem?_eq_some_iff.1 C2.out).1; omega))
              have e2 : Hid (w5.ownsRow w2.heap.size 41 4 v5 (pk (j + 1)).length (trc (pk (j + 1)))) := by
                show World.ownsRow _ _ _ _ _ _ _
                rw [HE1.out, trc_append, List.length_append]
                exact O5.out
              obtain ⟨a7, q7, rfl⟩ := own_slice e2.out
              have e3 : (pk (j + 1)).length = (pk j).length + 1 := by rw [HE1.out]; simp
              have HE3 := hideH e3
              clear e3
              go_wp2_with fail
              go_roundw
              case rel => exact ⟨j + 1, a7, q7, by omega, rfl, by go_num, ⟨hB5.out, hB6.out, hD5.out⟩, e2⟩
              case measure => simp [intOf]; omega
    · obtain rfl : j = N := by omega
      have hki : ¬ ((j : Int) < (j : Int)) := by omega
      go_wp2_with fail
      go_ret2
      exact ⟨_, rfl, owns_mono O5.out (by have := H2.out.size; omega), Q5.out.1⟩
end Go.Proofs.YtdffopkljomipaaGreatDoor
