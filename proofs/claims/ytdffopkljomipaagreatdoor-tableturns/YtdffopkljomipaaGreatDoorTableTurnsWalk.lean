/- The walk of the statement TableTurns. -/
import Derived.Test.YtdffopkljomipaaGreatDoorTableSameWalk
import Derived.Test.YtdffopkljomipaaGreatDoorOffCAll
import Derived.Deep.CutRange
import Derived.Deep.RegionHeld3
namespace Go.Proofs.YtdffopkljomipaaGreatDoor
open Go Go.RowKit Go.Maps
set_option linter.unusedVariables false

theorem cho_inT (c n : Int) (h : 0 < n) : 0 ≤ cho c n ∧ cho c n < n := by
  unfold cho
  split
  · exact ⟨Int.emod_nonneg _ (by omega), Int.emod_lt_of_pos _ h⟩
  · exact ⟨Int.emod_nonneg _ (by omega), Int.emod_lt_of_pos _ h⟩
theorem cho_natT (c : Int) (n : Nat) (h : 0 < n) : ∃ j : Nat, cho c n = j ∧ j < n := by
  have := cho_inT c n (by omega)
  exact ⟨(cho c n).toNat, by omega, by omega⟩
/-- until when a turn holds -/
def endT (ts : Nat → Tu) (n j : Nat) : Int := if j + 1 < n then (ts (j + 1)).at_ else 1893456000
def ofT (x : Tu) : Of := ⟨x.tt, x.sv, x.ab⟩
theorem cmp_turn {D : Dt} (hc : chkE D = 0) {k : Nat} (hk : k < D.nz) {j : Nat} (hj : j < (cmpT D k).length) :
    0 ≤ (tuF (cmpT D k) j).at_ ∧ (tuF (cmpT D k) j).at_ < endT (tuF (cmpT D k)) (cmpT D k).length j ∧ endT (tuF (cmpT D k)) (cmpT D k).length j ≤ 1893456000 ∧ (∀ x, (tuF (cmpT D k) j).at_ ≤ x → x < endT (tuF (cmpT D k)) (cmpT D k).length j → offR D k x = ofT (tuF (cmpT D k) j)) ∧
      (0 < j → 0 < (tuF (cmpT D k) j).at_ ∧ offR D k ((tuF (cmpT D k) j).at_ - 1) = ofT (tuF (cmpT D k) (j - 1)) ∧ offR D k ((tuF (cmpT D k) j).at_ - 1) ≠ ofT (tuF (cmpT D k) j)) := by
  have hi := cmp_inv hc hk
  generalize hT : cmpT D k = T at hi hj
  have hup := List.pairwise_iff_getElem.1 hi.up
  have hv : ∀ i (h : i < T.length), T[i].2 = offR D k T[i].1 ∧ 0 ≤ T[i].1 ∧ T[i].1 ≤ 1893455999 ∧ Tab.dif (offR D k) T[i].1 := fun i h => hi.val T[i] (List.getElem_mem h)
  have e0 := tuF_at hj
  have hof : ∀ i (h : i < T.length), ofT (tuF T i) = T[i].2 := fun i h => by rw [tuF_at h]; rfl
  have hlook : ∀ i (h : i < T.length) x, T[i].1 ≤ x → x < endT (tuF T) T.length i → x ≤ 1893455999 → offR D k x = ofT (tuF T i) := fun i h x h1 h2 h3 => by
    rw [hof i h]
    refine (Tab.inv_look hi (by have := (hv i h).2.1; omega) h3 (List.getElem_mem h) h1 fun y hy hyx => ?_).symm
    obtain ⟨q, hq, rfl⟩ := List.getElem_of_mem hy
    rcases Nat.lt_or_ge i q with hlt | hge
    · exfalso
      unfold endT at h2
      rw [if_pos (by omega), tuF_at (by omega : i + 1 < T.length)] at h2
      simp only at h2
      rcases Nat.lt_or_ge (i + 1) q with h4 | h4
      · have := hup (i + 1) q (by omega) hq h4
        omega
      · obtain rfl : q = i + 1 := by omega
        omega
    · rcases Nat.lt_or_ge q i with h4 | h4
      · have := hup q i hq h h4
        omega
      · obtain rfl : q = i := by omega
        omega
  have hend : ∀ i (h : i < T.length), T[i].1 < endT (tuF T) T.length i ∧ endT (tuF T) T.length i ≤ 1893456000 := fun i h => by
    unfold endT
    by_cases h1 : i + 1 < T.length
    · rw [if_pos h1, tuF_at h1]
      have := hup i (i + 1) h h1 (by omega)
      have h2 := (hv (i + 1) h1).2.2.1
      exact ⟨this, by simp only; omega⟩
    · rw [if_neg h1]
      have := (hv i h).2.2.1
      exact ⟨by omega, by omega⟩
  have hA : (tuF T j).at_ = T[j].1 := by rw [e0]
  rw [hA]
  refine ⟨(hv j hj).2.1, (hend j hj).1, (hend j hj).2, fun x h1 h2 => hlook j hj x h1 h2 (by have := (hend j hj).2; omega), fun hj0 => ?_⟩
  have hp : j - 1 < T.length := by omega
  have h1 := hup (j - 1) j hp hj (by omega)
  have h2 := (hv (j - 1) hp).2.1
  have h3 := (hv j hj).2.2.1
  have he : endT (tuF T) T.length (j - 1) = T[j].1 := by
    unfold endT
    rw [if_pos (by omega), tuF_at (by omega : j - 1 + 1 < T.length)]
    have : j - 1 + 1 = j := by omega
    simp only [this]
  refine ⟨by omega, hlook (j - 1) hp _ (by omega) (by rw [he]; omega) (by omega), ?_⟩
  rw [hof j hj, (hv j hj).1]
  rcases (hv j hj).2.2.2 with h4 | h4
  · omega
  · exact h4
set_option maxRecDepth 100000 in
set_option maxHeartbeats 8000000 in
theorem TableTurns_w (D : Dt) (s : ByteArray) (ii t : Int) (w : World) (hL : Laid w) (hM : Mx w) (hD : DAt w D) (hF : D.fits) (hs : s.size ≤ maxLen) (hi : -9223372036854775808 ≤ ii ∧ ii ≤ 9223372036854775807) (ht : -9223372036854775808 ≤ t ∧ t ≤ 9223372036854775807) :
    Calls Tryz.prog 5 #[D.v, .string s, .int .i64 ii, .int .i64 t] w fun e w' => e = .returned (.bool true) ∧ Below w.heap.size w w' := by
  have HL := hideH hL
  have HM := hideH hM
  have HD := hideH hD
  have HE : Hid (∀ v : World, Below w.heap.size w v → Env v D) := fun v h => ⟨HL.out.on h, HM.out.on h, HD.out.on h⟩
  have HC := hideH (fun v (hv : Below w.heap.size w v) => Compile_c D s v (HE.out v hv) hF hs)
  have HOA := hideH (fun (T : Int) v (hv : Below w.heap.size w v) => OAt_c D s T v (HE.out v hv) hF hs)
  have HT := hideH (fun v (hv : Below w.heap.size w v) => tableBegun_c v (HL.out.on hv) (HM.out.on hv))
  have HCh : Hid (∀ (c n : Int) (v : World), 0 < n → -9223372036854775808 ≤ c → c ≤ 9223372036854775807 → Calls Tryz.prog 14 #[.int .i64 c, .int .i64 n] v fun e w' => e = .returned (.int .i64 (cho c n)) ∧ w' = v) := fun c n v h1 h2 h3 => choose_any c n v h1 h2 h3
  have hb0 := hideH ((Below.refl _ w).alloc (Nat.le_refl _) (.cells (dC D) 26))
  have hc0 := hideH (World.alloc_heap_new w (.cells (dC D) 26))
  clear hL hM hD hF hs
  go_enter Tryz.func5, Tryz.ntmps5
  go_wp2_with fail
  refine (HC.out _ hb0.out).mono ?_
  rintro e w1 ⟨hw1, ⟨h0, k, v, hk, hkz, rfl, ho⟩ | ⟨h0, rfl⟩⟩
  · have H1 := hideH (bthen hb0.out hw1)
    have C1 := hideH (heap_on hc0.out hw1)
    have hcz := (zon_ok h0).1
    have hIs := cmp_isT hcz hkz
    obtain ⟨a, c, rfl, htu, hm⟩ := tu_own ho
    obtain ⟨j, hjc, hjn⟩ := cho_natT ii (cmpT D k).length hIs.1
    obtain ⟨t1, t2, t3, t4, t5⟩ := cmp_turn hcz hkz hjn
    have HA0 : Hid (∀ (T : Int) (v : World), 0 ≤ T → T < 1893456000 → Below w.heap.size w v → Calls Tryz.prog 13 #[D.v, .string s, .int .i64 T] v fun e w' => e = .returned (.tuple #[(offR D k T).v, .int .i64 0]) ∧ Below v.heap.size v w') := fun T v h1 h2 hv => by
      have := HOA.out T v hv
      rw [(ats_in h0 hk ⟨h1, h2⟩).1, (ats_in h0 hk ⟨h1, h2⟩).2] at this
      exact this
    have HJ : Hid (∀ v, Calls Tryz.prog 14 #[.int .i64 ii, .int .i64 (cmpT D k).length] v fun e w' => e = .returned (.int .i64 j) ∧ w' = v) := fun v => by have := HCh.out ii (cmpT D k).length v (by have := hIs.1; omega) hi.1 hi.2; rwa [hjc] at this
    have HCt : Hid (∀ (n : Int) v, 0 < n → Calls Tryz.prog 14 #[.int .i64 t, .int .i64 n] v fun e w' => e = .returned (.int .i64 (cho t n)) ∧ w' = v) := fun n v h => HCh.out t n v h ht.1 ht.2
    obtain ⟨N, hN⟩ : ∃ N, N = (cmpT D k).length := ⟨_, rfl⟩
    obtain ⟨ts, hts⟩ : ∃ ts, ts = tuF (cmpT D k) := ⟨_, rfl⟩
    rw [← hN, ← hts] at htu t2 t3 t4 hIs
    rw [← hts] at t1 t5
    rw [← hN] at hm hjn HJ ⊢
    have HIs := hideH hIs
    have hN0 := hIs.1
    rcases htu with hz | ⟨g, off, rfl, hcs⟩
    · omega
    have HCs := hideH hcs
    have HEnd : Hid (endT ts N j = if j + 1 < N then (ts (j + 1)).at_ else 1893456000) := rfl
    generalize endT ts N j = F at t2 t3 t4 HEnd
    unfold maxLen at hm
    clear hw1 hb0 hc0 ho hN hts hIs hcs HC HOA HCh hcz h0 hk hkz hjc hi ht
    have HA : Hid (∀ (T : Int) v, (ts j).at_ ≤ T → T < F → Below w.heap.size w v → Calls Tryz.prog 13 #[D.v, .string s, .int .i64 T] v fun e w' => e = .returned (.tuple #[(ofT (ts j)).v, .int .i64 0]) ∧ Below v.heap.size v w') := fun T v h1 h2 hv => by
      have := HA0.out T v (by omega) (by omega) hv
      rw [t4 T h1 h2] at this
      exact this
    have H5 := hideH t5
    clear t4 t5
    obtain ⟨A, hAe⟩ : ∃ A, A = (ts j).at_ := ⟨_, rfl⟩
    obtain ⟨rt, hrt⟩ : ∃ x, x = (ts j).tt := ⟨_, rfl⟩
    obtain ⟨rs, hrs⟩ : ∃ x, x = (ts j).sv := ⟨_, rfl⟩
    obtain ⟨ra, hra⟩ : ∃ x, x = (ts j).ab := ⟨_, rfl⟩
    simp only [ofT, Of.v, ← hAe, ← hrt, ← hrs, ← hra] at HA H5 t1 t2
    have hcj := HCs.out j hjn
    rw [← hAe, ← hrt, ← hrs, ← hra] at hcj
    have HCj := hideH hcj
    have hc00 := (HCs.out 0 hN0).1
    rw [HIs.out.2.1] at hc00
    simp at hc00
    obtain ⟨d0, d1, d2, d3⟩ := hcj
    clear hAe hrt hrs hra
    obtain ⟨c0, c1, c2⟩ := cells3 C1.out
    have hNz : ¬ ((N : Int) = 0) := by omega
    have hj0 : decide ((j : Int) < 0) = false := by simp
    have hjN : decide (N ≤ j) = false := by simp; omega
    have hjI : (j : Int) < (N : Int) := by omega
    have hNb : ((N : Int) == 0) = false := beq_eq_false_iff_ne.2 hNz
    go_wp2_with fail
    refine (HJ.out _).mono ?_
    rintro e w1 ⟨rfl, rfl⟩
    clear HJ c0 c1 c2
    have l0 := cell_lt d0
    go_upto_if 46 with fail
    go_cut [12] from 47 to 52 (fun x12 wx => x12 = .int .i64 F ∧ w1 = wx)
    case first =>
      by_cases hq : j + 1 < N
      · have e1 := (HCs.out (j + 1) hq).1
        have e2 := HEnd.out
        rw [if_pos hq] at e2
        rw [← e2] at e1
        have hq2 : (j : Int) + 1 < (N : Int) := by omega
        have hq3 : decide ((j : Int) + 1 < 0) = false := by simp; omega
        have hq4 : ((j : Int) + 1).toNat = j + 1 := by omega
        have hq5 : decide (N ≤ j + 1) = false := by simp; omega
        clear e2
        go_wp2_with fail
        go_meet
        case rel => exact ⟨rfl, rfl⟩
      · have e2 := HEnd.out
        rw [if_neg hq] at e2
        have hq2 : ¬ ((j : Int) + 1 < (N : Int)) := by omega
        subst e2
        go_wp2_with fail
        go_meet
        case rel => exact ⟨rfl, rfl⟩
    case rest =>
      obtain ⟨rfl, rfl⟩ := hcut
      have hAF : ¬ (F ≤ A) := by omega
      have HDB := C1
      go_upto_region 12 with fail
      obtain ⟨c0, c1, c2⟩ := cells3 C1.out
      have l1 := cell_lt c0
      go_cut [13, 14] from 61 to 70 (fun x13 x14 wx => ∃ B, x13 = .pointer (some ⟨B, 0, none⟩) ∧ x14 = .int .i64 0 ∧ Hid (Below w1.heap.size w1 wx) ∧ Hid (wx.heap[B]? = some (.cells #[.int .i64 rt, .int .i64 rs, .string ra] 32)))
      case first =>
        have KS : Hid (∀ v : World, Below w1.heap.size w1 v → v.cell? ⟨w.heap.size, 0, none⟩ = some (.slice D.sa D.ns D.sc) ∧ v.cell? ⟨w.heap.size, 1, none⟩ = some (.slice D.za D.nz D.zc) ∧ v.cell? ⟨w.heap.size, 2, none⟩ = some (.slice D.la D.nl D.lc) ∧ v.cell? ⟨g, off + j * 4, none⟩ = some (.int .i64 A)) := fun v hv => ⟨cell_on c0 hv, cell_on c1 hv, cell_on c2 hv, cell_on d0 hv⟩
        have hbz := (Below.refl _ w1).alloc (Nat.le_refl _) (.cells #[.int .i64 0, .int .i64 0, .string ⟨#[]⟩] 32)
        have BR := (Below.refl w1.heap.size w1).drew
        go_region_held3 (fun v => v.cell? ⟨w.heap.size, 0, none⟩ = some (.slice D.sa D.ns D.sc) ∧ v.cell? ⟨w.heap.size, 1, none⟩ = some (.slice D.za D.nz D.zc) ∧ v.cell? ⟨w.heap.size, 2, none⟩ = some (.slice D.la D.nl D.lc) ∧ v.cell? ⟨g, off + j * 4, none⟩ = some (.int .i64 A))
          (first
            | (exact ⟨c0, c1, c2, d0⟩)
            | (exact KS.out _ BR)
            | (exact KS.out _ hbz.drew)
            | (exact KS.out _ (bthen BR hw6))
            | (exact KS.out _ (bthen hbz.drew hw6))
            | (exact KS.out _ ((bthen BR hw6).alloc (bthen BR hw6).size _))
            | (exact KS.out _ ((((bthen hbz.drew hw6).setCell (p := ⟨w1.heap.size, 0, none⟩) (Nat.le_refl _) _).setCell (p := ⟨w1.heap.size, 1, none⟩) (Nat.le_refl _) _).setCell (p := ⟨w1.heap.size, 2, none⟩) (Nat.le_refl _) _))
            | go_keep)
          (first
            | (go_at_call 13; (first | refine (HA.out A _ (by omega) (by omega) (by exact H1.out.drew)).mono ?_ | refine (HA.out A _ (by omega) (by omega) (by exact (H1.out.alloc H1.out.size _).drew)).mono ?_); rintro e w6 ⟨rfl, hw6⟩; try (have hz6 := heap_on (w := (w1.alloc (.cells #[.int .i64 0, .int .i64 0, .string ⟨#[]⟩] 32)).drew) (World.alloc_heap_new w1 (.cells #[.int .i64 0, .int .i64 0, .string ⟨#[]⟩] 32)) hw6; obtain ⟨s0, s1, s2⟩ := cells3 hz6; have y0 := frozen3 hz6 0; have y1 := frozen3 hz6 1; have y2 := frozen3 hz6 2)))
        all_goals
          go_wp2_with fail
          go_meet
          case rel =>
            first
              | (obtain ⟨k1, k2, -, -⟩ := meetA (w := w1) (v := w1.drew) BR hw6 HDB.out HDB.out (.cells #[.int .i64 rt, .int .i64 rs, .string ra] 32); exact ⟨_, rfl, rfl, k1, k2⟩)
              | (obtain ⟨k1, k2, -, -⟩ := meetB (w := w1) (Below.refl _ w1) hw6 HDB.out HDB.out (.int .i64 rt) (.int .i64 rs) (.string ra); exact ⟨_, rfl, rfl, k1, k2⟩)
      case rest =>
        obtain ⟨B, rfl, rfl, HW2, P2⟩ := hcut
        rename World => wb
        have H3 := hideH (bthen H1.out HW2.out)
        have C3 := hideH (heap_on C1.out HW2.out)
        have HB12 := hideH HW2.out
        clear c0 c1 c2 d0 d1 d2 d3 l0 l1 hc00 C1 HDB H1
        obtain ⟨c0, c1, c2⟩ := cells3 C3.out
        have d0 := cell_on HCj.out.1 HB12.out
        have l0 := cell_lt d0
        have l1 := cell_lt c0
        have HDB := C3
        have hpos : 0 < F - A := by omega
        have hR := cho_inT t (F - A) hpos
        have HT2 : Hid (∃ R, 0 ≤ R ∧ R < F - A ∧ ∀ v, Calls Tryz.prog 14 #[.int .i64 t, .int .i64 (F - A)] v fun e w' => e = .returned (.int .i64 R) ∧ w' = v) := ⟨_, hR.1, hR.2, fun v => HCt.out _ v hpos⟩
        obtain ⟨R, r1, r2, hch⟩ := HT2.out
        have HC2 := hideH hch
        have hw1 : IntKind.i64.wrap (F - A) = F - A := wrap_nnT (by omega) (by omega)
        have hw2 : IntKind.i64.wrap (A + R) = A + R := wrap_nnT (by omega) (by omega)
        clear hch HT2 hR hpos
        go_upto_region 13 with fail
        go_cut [15, 16] from 72 to 91 (fun x15 x16 wx => ∃ B, x15 = .pointer (some ⟨B, 0, none⟩) ∧ x16 = .int .i64 0 ∧ Hid (Below wb.heap.size wb wx) ∧ Hid (wx.heap[B]? = some (.cells #[.int .i64 rt, .int .i64 rs, .string ra] 32)))
        case first =>
          have KS : Hid (∀ v : World, Below wb.heap.size wb v → v.cell? ⟨w.heap.size, 0, none⟩ = some (.slice D.sa D.ns D.sc) ∧ v.cell? ⟨w.heap.size, 1, none⟩ = some (.slice D.za D.nz D.zc) ∧ v.cell? ⟨w.heap.size, 2, none⟩ = some (.slice D.la D.nl D.lc) ∧ v.cell? ⟨g, off + j * 4, none⟩ = some (.int .i64 A)) := fun v hv => ⟨cell_on c0 hv, cell_on c1 hv, cell_on c2 hv, cell_on d0 hv⟩
          have hbz := (Below.refl _ wb).alloc (Nat.le_refl _) (.cells #[.int .i64 0, .int .i64 0, .string ⟨#[]⟩] 32)
          have BR := (Below.refl wb.heap.size wb).drew
          go_region_held3 (fun v => v.cell? ⟨w.heap.size, 0, none⟩ = some (.slice D.sa D.ns D.sc) ∧ v.cell? ⟨w.heap.size, 1, none⟩ = some (.slice D.za D.nz D.zc) ∧ v.cell? ⟨w.heap.size, 2, none⟩ = some (.slice D.la D.nl D.lc) ∧ v.cell? ⟨g, off + j * 4, none⟩ = some (.int .i64 A))
            (first
              | (exact ⟨c0, c1, c2, d0⟩)
              | (exact KS.out _ BR)
              | (exact KS.out _ hbz.drew)
              | (exact KS.out _ (bthen BR hw6))
              | (exact KS.out _ (bthen hbz.drew hw6))
              | (exact KS.out _ ((bthen BR hw6).alloc (bthen BR hw6).size _))
              | (exact KS.out _ ((((bthen hbz.drew hw6).setCell (p := ⟨wb.heap.size, 0, none⟩) (Nat.le_refl _) _).setCell (p := ⟨wb.heap.size, 1, none⟩) (Nat.le_refl _) _).setCell (p := ⟨wb.heap.size, 2, none⟩) (Nat.le_refl _) _))
              | go_keep)
            (first
              | (go_at_call 14; (try rw [hw1]); refine (HC2.out _).mono ?_; rintro e wz ⟨rfl, rfl⟩)
              | (go_at_call 13; (try rw [hw2]); (first | refine (HA.out (A + R) _ (by omega) (by omega) (by exact H3.out.drew)).mono ?_ | refine (HA.out (A + R) _ (by omega) (by omega) (by exact (H3.out.alloc H3.out.size _).drew)).mono ?_); rintro e w6 ⟨rfl, hw6⟩; try (have hz6 := heap_on (w := (wb.alloc (.cells #[.int .i64 0, .int .i64 0, .string ⟨#[]⟩] 32)).drew) (World.alloc_heap_new wb (.cells #[.int .i64 0, .int .i64 0, .string ⟨#[]⟩] 32)) hw6; obtain ⟨s0, s1, s2⟩ := cells3 hz6; have y0 := frozen3 hz6 0; have y1 := frozen3 hz6 1; have y2 := frozen3 hz6 2)))
          all_goals
            go_wp2_with fail
            go_meet
            case rel =>
              first
                | (obtain ⟨k1, k2, -, -⟩ := meetA (w := wb) (v := wb.drew) BR hw6 HDB.out HDB.out (.cells #[.int .i64 rt, .int .i64 rs, .string ra] 32); exact ⟨_, rfl, rfl, k1, k2⟩)
                | (obtain ⟨k1, k2, -, -⟩ := meetB (w := wb) (Below.refl _ wb) hw6 HDB.out HDB.out (.int .i64 rt) (.int .i64 rs) (.string ra); exact ⟨_, rfl, rfl, k1, k2⟩)
        case rest =>
          obtain ⟨B2, rfl, rfl, HW4, P4⟩ := hcut
          rename World => wd
          have H5a := hideH (bthen H3.out HW4.out)
          have C5 := hideH (heap_on C3.out HW4.out)
          have P5 := hideH (heap_on P2.out HW4.out)
          have HB5 := hideH (bthen HB12.out HW4.out)
          clear c0 c1 c2 d0 l0 l1 C3 HDB H3 HW4 HW2 HB12 P2 HC2 hw1 hw2
          obtain ⟨p0, p1, p2⟩ := cells3 P5.out
          obtain ⟨q0, q1, q2⟩ := cells3 P4.out
          have d1 := cell_on HCj.out.2.1 HB5.out
          have d2 := cell_on HCj.out.2.2.1 HB5.out
          have d3 := cell_on HCj.out.2.2.2 HB5.out
          go_wp2_with fail
          go_quiet (fail)
          obtain ⟨we, hwe⟩ : ∃ we, we = wd.drewN nq := ⟨_, rfl⟩
          have H6 : Hid (Below w.heap.size w we) := by show Below _ _ _; rw [hwe]; exact below_drewN H5a.out _
          have C6 : Hid (we.heap[w.heap.size]? = some (.cells (dC D) 26)) := by show _ = _; rw [hwe]; exact C5.out
          have P6 : Hid (we.heap[B]? = some (.cells #[.int .i64 rt, .int .i64 rs, .string ra] 32)) := by show _ = _; rw [hwe]; exact P5.out
          have HB6 : Hid (Below w1.heap.size w1 we) := by show Below _ _ _; rw [hwe]; exact below_drewN HB5.out _
          simp only [← hwe]
          clear hwe H5a C5 P5 P4 HB5 p0 p1 p2 q0 q1 q2 d1 d2 d3
          by_cases hjz : j = 0
          · subst hjz
            go_wp2_with fail
            refine (HT.out _ H6.out).mono ?_
            rintro e w9 ⟨rfl, hw9⟩
            have H9 := hideH (bthen H6.out hw9)
            clear hw9
            go_wp2_with fail
            go_ret
            exact ⟨rfl, H9.out⟩
          · obtain ⟨j', rfl⟩ : ∃ j', j = j' + 1 := ⟨j - 1, by omega⟩
            obtain ⟨h5a, h5b, h5c⟩ := H5.out (by omega)
            have hcp := HCs.out j' (by omega)
            have hsub : j' + 1 - 1 = j' := by omega
            rw [hsub] at h5b
            have hal := HA0.out (A - 1)
            rw [h5b] at h5c hal
            obtain ⟨pt, hpt⟩ : ∃ x, x = (ts j').tt := ⟨_, rfl⟩
            obtain ⟨ps, hps⟩ : ∃ x, x = (ts j').sv := ⟨_, rfl⟩
            obtain ⟨pa, hpa⟩ : ∃ x, x = (ts j').ab := ⟨_, rfl⟩
            simp only [Of.v, ← hpt, ← hps, ← hpa] at hcp h5c hal
            have HAp := hideH hal
            have HCp := hideH hcp
            have hjb : (((j' : Int) + 1) == 0) = false := beq_eq_false_iff_ne.2 (by omega)
            have hjb2 : ¬ ((j' : Int) + 1 = 0) := by omega
            have hdif : (pt ≠ rt) ∨ (pt = rt ∧ ps ≠ rs) ∨ (pt = rt ∧ ps = rs ∧ pa ≠ ra) := by
              by_cases h2 : pt = rt
              · by_cases h3 : ps = rs
                · by_cases h4 : pa = ra
                  · exact absurd (by rw [h2, h3, h4]) h5c
                  · exact .inr (.inr ⟨h2, h3, h4⟩)
                · exact .inr (.inl ⟨h2, h3⟩)
              · exact .inl h2
            clear hpt hps hpa hcp h5b h5c hal hsub H5 HA0 HA
            have hw1 : IntKind.i64.wrap (A - 1) = A - 1 := wrap_nnT (by omega) (by omega)
            obtain ⟨c0, c1, c2⟩ := cells3 C6.out
            have d0 := cell_on HCj.out.1 HB6.out
            have l0 := cell_lt d0
            have l1 := cell_lt c0
            have HDB := C6
            have hj7 : (j' : Int) + 1 < (N : Int) := by omega
            have hj8 : (0 : Int) ≤ (j' : Int) + 1 := by omega
            have hj9 : decide ((j' : Int) + 1 < 0) = false := by simp; omega
            have hja : decide (N ≤ j' + 1) = false := by simp; omega
            have hjc : j' + 1 < N := by omega
            go_upto_region 18 with fail
            go_cut [17, 18] from 120 to 130 (fun x17 x18 wx => ∃ B, x17 = .pointer (some ⟨B, 0, none⟩) ∧ x18 = .int .i64 0 ∧ Hid (Below we.heap.size we wx) ∧ Hid (wx.heap[B]? = some (.cells #[.int .i64 pt, .int .i64 ps, .string pa] 32)))
            case first =>
              have KS : Hid (∀ v : World, Below we.heap.size we v → v.cell? ⟨w.heap.size, 0, none⟩ = some (.slice D.sa D.ns D.sc) ∧ v.cell? ⟨w.heap.size, 1, none⟩ = some (.slice D.za D.nz D.zc) ∧ v.cell? ⟨w.heap.size, 2, none⟩ = some (.slice D.la D.nl D.lc) ∧ v.cell? ⟨g, off + (j' + 1) * 4, none⟩ = some (.int .i64 A)) := fun v hv => ⟨cell_on c0 hv, cell_on c1 hv, cell_on c2 hv, cell_on d0 hv⟩
              have hbz := (Below.refl _ we).alloc (Nat.le_refl _) (.cells #[.int .i64 0, .int .i64 0, .string ⟨#[]⟩] 32)
              have BR := (Below.refl we.heap.size we).drew
              go_region_held3 (fun v => v.cell? ⟨w.heap.size, 0, none⟩ = some (.slice D.sa D.ns D.sc) ∧ v.cell? ⟨w.heap.size, 1, none⟩ = some (.slice D.za D.nz D.zc) ∧ v.cell? ⟨w.heap.size, 2, none⟩ = some (.slice D.la D.nl D.lc) ∧ v.cell? ⟨g, off + (j' + 1) * 4, none⟩ = some (.int .i64 A))
                (first
                  | (exact ⟨c0, c1, c2, d0⟩)
                  | (exact KS.out _ BR)
                  | (exact KS.out _ hbz.drew)
                  | (exact KS.out _ (bthen BR hw6))
                  | (exact KS.out _ (bthen hbz.drew hw6))
                  | (exact KS.out _ ((bthen BR hw6).alloc (bthen BR hw6).size _))
                  | (exact KS.out _ ((((bthen hbz.drew hw6).setCell (p := ⟨we.heap.size, 0, none⟩) (Nat.le_refl _) _).setCell (p := ⟨we.heap.size, 1, none⟩) (Nat.le_refl _) _).setCell (p := ⟨we.heap.size, 2, none⟩) (Nat.le_refl _) _))
                  | go_keep)
                (first
                  | (go_at_call 13; (try rw [hw1]); (first | refine (HAp.out _ (by omega) (by omega) (by exact H6.out.drew)).mono ?_ | refine (HAp.out _ (by omega) (by omega) (by exact (H6.out.alloc H6.out.size _).drew)).mono ?_); rintro e w6 ⟨rfl, hw6⟩; try (have hz6 := heap_on (w := (we.alloc (.cells #[.int .i64 0, .int .i64 0, .string ⟨#[]⟩] 32)).drew) (World.alloc_heap_new we (.cells #[.int .i64 0, .int .i64 0, .string ⟨#[]⟩] 32)) hw6; obtain ⟨s0, s1, s2⟩ := cells3 hz6; have y0 := frozen3 hz6 0; have y1 := frozen3 hz6 1; have y2 := frozen3 hz6 2)))
              all_goals
                go_wp2_with fail
                go_meet
                case rel =>
                  first
                    | (obtain ⟨k1, k2, -, -⟩ := meetA (w := we) (v := we.drew) BR hw6 HDB.out HDB.out (.cells #[.int .i64 pt, .int .i64 ps, .string pa] 32); exact ⟨_, rfl, rfl, k1, k2⟩)
                    | (obtain ⟨k1, k2, -, -⟩ := meetB (w := we) (Below.refl _ we) hw6 HDB.out HDB.out (.int .i64 pt) (.int .i64 ps) (.string pa); exact ⟨_, rfl, rfl, k1, k2⟩)
            case rest =>
              obtain ⟨B3, rfl, rfl, HW7, P7⟩ := hcut
              rename World => wf
              have H8 := hideH (bthen H6.out HW7.out)
              have P8 := hideH (heap_on P6.out HW7.out)
              have HB8 := hideH (bthen HB6.out HW7.out)
              clear c0 c1 c2 d0 l0 l1 C6 HDB H6 HW7 HB6 P6 hw1
              obtain ⟨p0, p1, p2⟩ := cells3 P8.out
              obtain ⟨q0, q1, q2⟩ := cells3 P7.out
              have d1 := cell_on HCp.out.2.1 HB8.out
              have d2 := cell_on HCp.out.2.2.1 HB8.out
              have d3 := cell_on HCp.out.2.2.2 HB8.out
              have hw3 : IntKind.i64.wrap ((j' : Int) + 1 - 1) = (j' : Int) := by rw [wrap_nnT (by omega) (by omega)]; omega
              have hw4 : IntKind.i64.wrap (j' : Int) = (j' : Int) := wrap_nnT (by omega) (by omega)
              have hj3 : (j' : Int) < (N : Int) := by omega
              have hj4 : decide ((j' : Int) < 0) = false := by simp
              have hj5 : decide (N ≤ j') = false := by simp; omega
              have hj6 : (0 : Int) ≤ (j' : Int) := by omega
              go_upto_region 19 with fail
              rcases hdif with h2 | ⟨h2, h3⟩ | ⟨h2, h3, h4⟩
              · have KS : Hid (∀ v : World, Below wf.heap.size wf v → v.cell? ⟨B3, 0, none⟩ = some (.int .i64 pt) ∧ v.cell? ⟨B3, 1, none⟩ = some (.int .i64 ps) ∧ v.cell? ⟨B3, 2, none⟩ = some (.string pa) ∧ v.cell? ⟨B, 0, none⟩ = some (.int .i64 rt) ∧ v.cell? ⟨B, 1, none⟩ = some (.int .i64 rs) ∧ v.cell? ⟨B, 2, none⟩ = some (.string ra) ∧ v.cell? ⟨g, off + j' * 4 + 1, none⟩ = some (.int .i64 pt) ∧ v.cell? ⟨g, off + j' * 4 + 2, none⟩ = some (.int .i64 ps) ∧ v.cell? ⟨g, off + j' * 4 + 3, none⟩ = some (.string pa)) := fun v hv => ⟨cell_on q0 hv, cell_on q1 hv, cell_on q2 hv, cell_on p0 hv, cell_on p1 hv, cell_on p2 hv, cell_on d1 hv, cell_on d2 hv, cell_on d3 hv⟩
                have BR := (Below.refl wf.heap.size wf).drew
                go_region_held3 (fun v => v.cell? ⟨B3, 0, none⟩ = some (.int .i64 pt) ∧ v.cell? ⟨B3, 1, none⟩ = some (.int .i64 ps) ∧ v.cell? ⟨B3, 2, none⟩ = some (.string pa) ∧ v.cell? ⟨B, 0, none⟩ = some (.int .i64 rt) ∧ v.cell? ⟨B, 1, none⟩ = some (.int .i64 rs) ∧ v.cell? ⟨B, 2, none⟩ = some (.string ra) ∧ v.cell? ⟨g, off + j' * 4 + 1, none⟩ = some (.int .i64 pt) ∧ v.cell? ⟨g, off + j' * 4 + 2, none⟩ = some (.int .i64 ps) ∧ v.cell? ⟨g, off + j' * 4 + 3, none⟩ = some (.string pa))
                  (first | (exact KS.out _ BR) | (exact KS.out _ (bthen BR hw9)))
                  (first | (go_at_call 11; refine (HT.out _ (by exact H8.out.drew)).mono ?_; rintro e w9 ⟨rfl, hw9⟩))
                all_goals
                  go_wp2_with fail
                  go_ret
                  exact ⟨rfl, bthen H8.out.drew hw9⟩
              · subst h2
                have KS : Hid (∀ v : World, Below wf.heap.size wf v → v.cell? ⟨B3, 0, none⟩ = some (.int .i64 pt) ∧ v.cell? ⟨B3, 1, none⟩ = some (.int .i64 ps) ∧ v.cell? ⟨B3, 2, none⟩ = some (.string pa) ∧ v.cell? ⟨B, 0, none⟩ = some (.int .i64 pt) ∧ v.cell? ⟨B, 1, none⟩ = some (.int .i64 rs) ∧ v.cell? ⟨B, 2, none⟩ = some (.string ra) ∧ v.cell? ⟨g, off + j' * 4 + 1, none⟩ = some (.int .i64 pt) ∧ v.cell? ⟨g, off + j' * 4 + 2, none⟩ = some (.int .i64 ps) ∧ v.cell? ⟨g, off + j' * 4 + 3, none⟩ = some (.string pa)) := fun v hv => ⟨cell_on q0 hv, cell_on q1 hv, cell_on q2 hv, cell_on p0 hv, cell_on p1 hv, cell_on p2 hv, cell_on d1 hv, cell_on d2 hv, cell_on d3 hv⟩
                have BR := (Below.refl wf.heap.size wf).drew
                go_region_held3 (fun v => v.cell? ⟨B3, 0, none⟩ = some (.int .i64 pt) ∧ v.cell? ⟨B3, 1, none⟩ = some (.int .i64 ps) ∧ v.cell? ⟨B3, 2, none⟩ = some (.string pa) ∧ v.cell? ⟨B, 0, none⟩ = some (.int .i64 pt) ∧ v.cell? ⟨B, 1, none⟩ = some (.int .i64 rs) ∧ v.cell? ⟨B, 2, none⟩ = some (.string ra) ∧ v.cell? ⟨g, off + j' * 4 + 1, none⟩ = some (.int .i64 pt) ∧ v.cell? ⟨g, off + j' * 4 + 2, none⟩ = some (.int .i64 ps) ∧ v.cell? ⟨g, off + j' * 4 + 3, none⟩ = some (.string pa))
                  (first | (exact KS.out _ BR) | (exact KS.out _ (bthen BR hw9)))
                  (first | (go_at_call 11; refine (HT.out _ (by exact H8.out.drew)).mono ?_; rintro e w9 ⟨rfl, hw9⟩))
                all_goals
                  go_wp2_with fail
                  go_ret
                  exact ⟨rfl, bthen H8.out.drew hw9⟩
              · have h5 : (pa.toList == ra.toList) = false := by
                  rw [beq_eq_false_iff_ne]
                  intro h
                  rw [ByteArray.toList_eq, ByteArray.toList_eq] at h
                  exact h4 (ByteArray.ext (Array.toList_inj.1 h))
                subst h2 h3
                have KS : Hid (∀ v : World, Below wf.heap.size wf v → v.cell? ⟨B3, 0, none⟩ = some (.int .i64 pt) ∧ v.cell? ⟨B3, 1, none⟩ = some (.int .i64 ps) ∧ v.cell? ⟨B3, 2, none⟩ = some (.string pa) ∧ v.cell? ⟨B, 0, none⟩ = some (.int .i64 pt) ∧ v.cell? ⟨B, 1, none⟩ = some (.int .i64 ps) ∧ v.cell? ⟨B, 2, none⟩ = some (.string ra) ∧ v.cell? ⟨g, off + j' * 4 + 1, none⟩ = some (.int .i64 pt) ∧ v.cell? ⟨g, off + j' * 4 + 2, none⟩ = some (.int .i64 ps) ∧ v.cell? ⟨g, off + j' * 4 + 3, none⟩ = some (.string pa)) := fun v hv => ⟨cell_on q0 hv, cell_on q1 hv, cell_on q2 hv, cell_on p0 hv, cell_on p1 hv, cell_on p2 hv, cell_on d1 hv, cell_on d2 hv, cell_on d3 hv⟩
                have BR := (Below.refl wf.heap.size wf).drew
                go_region_held3 (fun v => v.cell? ⟨B3, 0, none⟩ = some (.int .i64 pt) ∧ v.cell? ⟨B3, 1, none⟩ = some (.int .i64 ps) ∧ v.cell? ⟨B3, 2, none⟩ = some (.string pa) ∧ v.cell? ⟨B, 0, none⟩ = some (.int .i64 pt) ∧ v.cell? ⟨B, 1, none⟩ = some (.int .i64 ps) ∧ v.cell? ⟨B, 2, none⟩ = some (.string ra) ∧ v.cell? ⟨g, off + j' * 4 + 1, none⟩ = some (.int .i64 pt) ∧ v.cell? ⟨g, off + j' * 4 + 2, none⟩ = some (.int .i64 ps) ∧ v.cell? ⟨g, off + j' * 4 + 3, none⟩ = some (.string pa))
                  (first | (exact KS.out _ BR) | (exact KS.out _ (bthen BR hw9)))
                  (first | (go_at_call 11; refine (HT.out _ (by exact H8.out.drew)).mono ?_; rintro e w9 ⟨rfl, hw9⟩))
                all_goals
                  go_wp2_with fail
                  go_ret
                  exact ⟨rfl, bthen H8.out.drew hw9⟩
  · have H1 := hideH (bthen hb0.out hw1)
    have hne : (zonE D s != 0) = true := by rw [bne_iff_ne]; exact h0
    generalize zonE D s = E at hne
    clear hw1 hb0 hc0 h0
    go_wp2_with fail
    refine (HT.out _ H1.out).mono ?_
    rintro e w2 ⟨rfl, hw2⟩
    have H2 := hideH (bthen H1.out hw2)
    clear hw2 H1
    go_wp2_with fail
    go_ret
    exact ⟨rfl, H2.out⟩
end Go.Proofs.YtdffopkljomipaaGreatDoor
