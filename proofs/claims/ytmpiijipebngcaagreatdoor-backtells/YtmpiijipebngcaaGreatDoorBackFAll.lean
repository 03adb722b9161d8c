/- The document's own WordsOf. -/
import Derived.Test.YtmpiijipebngcaaGreatDoorBackCAll
import Derived.Test.YtmpiijipebngcaaGreatDoorNamesTAll
import Derived.Deep.RegionHeldLaw
import Derived.Deep.AppendLies
import Derived.Test.YtmpiijipebngcaaGreatDoorTrieQ
import Derived.Test.YtmpiijipebngcaaGreatDoorUsesSAll
import Derived.Deep.QuietTactic
import Derived.BigQuiet
namespace Go.Proofs.YtmpiijipebngcaaGreatDoor
open Go Go.RowKit Go.Maps
set_option linter.unusedVariables false

theorem bw_bad {X : Wd} {loc : ByteArray} {t p : Int} (h : nerE X loc p ≠ 0) : bwE X loc t p = nerE X loc p := by
  unfold nerE at h ⊢
  unfold bwE
  split
  · rename_i h0
    rw [if_pos h0] at h
    split
    · rename_i h1
      rw [if_pos h1] at h
      by_cases h2 : btE X.bs X.bn loc = 0
      · rw [if_pos h2] at h; exact absurd rfl h
      · rw [if_neg h2, if_neg h2]
    · rfl
  · rfl
theorem bw_time {X : Wd} {loc : ByteArray} {t p : Int} (h : nerE X loc p = 0) : bwE X loc t p = if 0 ≤ t ∧ t < 1893456000 then 0 else 3 := by
  obtain ⟨h0, h1, h2⟩ := ner_ok h
  unfold bwE
  rw [if_pos h0, if_pos h1, if_pos h2]
set_option maxRecDepth 100000 in
set_option maxHeartbeats 8000000 in
theorem WordsOf_c (X : Wd) (loc : ByteArray) (t p : Int) (w : World) (hE : NEnv w X) : Calls Tryz.prog 24 #[X.v, .string loc, .int .i64 t, .int .i64 p] w fun e w' => woP X loc t p w e w' := by
  have HE := hideH hE
  have HB := hideH ((Below.refl _ w).alloc (Nat.le_refl _) (.cells X.cs 30))
  have HX := hideH (World.alloc_heap_new w (.cells X.cs 30))
  obtain ⟨c0, c1, c2, c3, c4⟩ := cells5n HX.out
  have HN := hideH (fun v (hv : Below w.heap.size w v) => NameError_c X loc t p v (HE.out.on hv))
  have HT := hideH (fun v => isTime_c t v)
  by_cases h : nerE X loc p = 0
  · have hbw := bw_time (t := t) h
    obtain ⟨n0, n1, n2⟩ := ner_ok h
    rw [h] at HN
    by_cases ht : 0 ≤ t ∧ t < 1893456000
    · rw [if_pos ht] at hbw
      have hnz := ws_nz hbw
      obtain ⟨b, hb1, hb2⟩ := bix_ok n0 n2
      have hb4 := (bchk_parts (nchk_ok n0).2).1
      have HK := hideH (fun v (hv : Below w.heap.size w v) => bookAt_c X.ba X.bn X.bc X.bs loc v (by omega) (HE.out.on hv).bat)
      rw [hb1] at HK
      have HC : Hid (∀ k, k < X.D.nz → ∀ v, Below w.heap.size w v → Calls Tryz.prog 34 #[X.v, .int .i64 b, .int .i64 k, .int .i64 t, .int .i64 p] v fun e w' => e = .returned (.string (wsB X loc t p k)) ∧ Below v.heap.size v w') := fun k hk v hv => by
        have := Rcalled_c X b k t p v (HE.out.on hv) n0 hb2 hk ht.1 ht.2
        rw [clK_nm (zone_nm hbw hk) hb1 (zone_told (uchk_ok (nchk_ok n0).1).1 hk).1 hk] at this
        exact this
      have hin : inB t 0 1893455999 = true := by unfold inB; simp; omega
      rw [hin] at HT
      obtain ⟨i0, hi, hz0, hz1, hz2⟩ := info_parts info_str
      have H0 := hideH hbw
      clear h hE hbw n0 n1 n2 ht hb1 hb2 hb4 hin
      go_enter Tryz.func24, Tryz.ntmps24
      go_wp2_with fail
      refine (HN.out _ HB.out).mono ?_
      rintro e w1 ⟨rfl, hw⟩
      have H1 := hideH (bthen HB.out hw)
      have C1 := hideH (heap_on HX.out hw)
      clear hw c0 c1 c2 c3 c4 HX HB HN
      go_wp2_with fail
      refine (HT.out _).mono ?_
      rintro e w2 ⟨rfl, rfl⟩
      go_wp2_with fail
      go_loopw [11, 12] (fun x11 x12 v => ∃ k : Nat, k ≤ X.D.nz ∧ x12 = .int .i64 k ∧ Hid (v.ownsRow (w.heap.size + 1) 9 1 x11 k (srw (wsB X loc t p) k)) ∧ Hid (Below w.heap.size w v) ∧ Hid (v.heap[w.heap.size]? = some (.cells X.cs 30))) (fun _ x12 _ => X.D.nz - (intOf x12).toNat)
      case atStart => exact ⟨0, Nat.zero_le _, rfl, World.ownsRow_nil _ _ _ _, H1, C1⟩
      case round =>
        obtain ⟨k, hk, rfl, QO, QW, QC⟩ := hrel
        clear H1 C1
        have C3 : Hid (bxW w.heap.size X wr) := cells5n QC.out
        obtain ⟨c0, c1, c2, c3, c4⟩ := C3.out
        by_cases hlt : k < X.D.nz
        · have hki : (k : Int) < (X.D.nz : Int) := by omega
          have HC1 := hideH (HC.out k hlt)
          have hsz : w.heap.size + 1 ≤ wr.heap.size := (Array.getElem?_eq_some_iff.1 QC.out).1
          have HAp : Hid (∀ w4 w5, Below wr.drew.heap.size wr.drew w4 → Below w4.heap.size w4 w5 → (w5.alloc (.cells #[.string (wsB X loc t p k)] 9)).ownsRow (w.heap.size + 1) 9 1 u11 k (srw (wsB X loc t p) k) ∧ Below w.heap.size w (w5.alloc (.cells #[.string (wsB X loc t p k)] 9)) ∧ (w5.alloc (.cells #[.string (wsB X loc t p k)] 9)).heap[w.heap.size]? = some (.cells X.cs 30) ∧ w.heap.size + 1 ≤ (w5.alloc (.cells #[.string (wsB X loc t p k)] 9)).heap.size) := fun w4 w5 h4 h5 => by
            have b0 : Below wr.heap.size wr wr.drew := (Below.refl _ wr).drew
            have bs := (Below.refl _ w5).alloc (Nat.le_refl _) (.cells #[.string (wsB X loc t p k)] 9)
            have hh := heap_on (heap_on (heap_on (heap_on QC.out b0) h4) h5) bs
            exact ⟨own_onB (own_onB (own_onB (own_onB QO.out b0) h4) h5) bs, bthen (bthen (bthen (bthen QW.out b0) h4) h5) bs, hh, (Array.getElem?_eq_some_iff.1 hh).1⟩
          go_wp2_with fail
          go_region_held_law (fun v => bxW w.heap.size X v)
            (first | (exact C3.out) | (exact bxW_on (w := wr) C3.out (Below.refl _ wr).drew) | (exact bxW_on (w := wr.drew) C3.out hw4) | (exact bxW_on (bxW_on (w := wr.drew) C3.out hw4) hw5) | (exact cells5n (HAp.out _ _ hw4 hw5).2.2.1) | (exact cells5n (heap_grownB (HAp.out _ _ hw4 hw5).2.2.1 hgrow6 (far_boxB (HAp.out _ _ hw4 hw5).1 (by omega)))))
            (first
            | (go_at_call 35; refine (HK.out _ (by exact QW.out.drew)).mono ?_; rintro e w4 ⟨rfl, hw4⟩)
            | (go_at_call 34; refine (HC1.out _ (by exact bthen (w := w) (a := wr.drew) QW.out.drew hw4)).mono ?_; rintro e w5 ⟨rfl, hw5⟩)
            | (refine step_append_lies _ rfl _ _ 56 rfl (w.heap.size + 1) 9 i0 (.string ⟨#[]⟩) 1 16 Tryz.underlying56 hi hz0 hz1 hz2 rfl (by decide) _ _ _ rfl (HAp.out _ _ hw4 hw5).1 ⟨w5.heap.size, 0, none⟩ 1 1 [.string (wsB X loc t p k)] rfl rfl (cell_one_new _ _ _) (by simp [Value.oneCell']) (by decide) (by unfold maxLen; omega) (by omega) (HAp.out _ _ hw4 hw5).2.2.2 _ rfl ?_; intro g6 q6 w6 hown6 hgrow6 hat6 hl6))
          all_goals
            have O5 : Hid (w6.ownsRow (w.heap.size + 1) 9 1 (.slice (some ⟨g6, 0, none⟩) (k + 1) q6) (k + 1) (srw (wsB X loc t p) (k + 1))) := by
              show World.ownsRow _ _ _ _ _ _ _
              rw [srw_succ]
              exact hown6
            have B5 : Hid (Below w.heap.size w w6) := (HAp.out _ _ hw4 hw5).2.1.grown hgrow6 (by have := (HAp.out _ _ hw4 hw5).2.1.size; omega) (fun q hq => by have := (own_lt (HAp.out _ _ hw4 hw5).1 hq).1; omega)
            have C5 := hideH (heap_grownB (HAp.out _ _ hw4 hw5).2.2.1 hgrow6 (far_boxB (HAp.out _ _ hw4 hw5).1 (by omega)))
            clear hown6 hgrow6 hat6 hl6 hw4 hw5 c0 c1 c2 c3 c4
            go_wp2_with fail
            go_roundw
            case rel => exact ⟨k + 1, by omega, by go_num, O5, B5, C5⟩
            case measure => simp [intOf]; omega
        · obtain rfl : k = X.D.nz := by omega
          have hki : ¬ ((X.D.nz : Int) < (X.D.nz : Int)) := by omega
          go_wp2_with fail
          go_ret2
          unfold woP
          exact ⟨QW.out, .inr ⟨H0.out, _, rfl, owns_monoB QO.out (by omega)⟩⟩
    · rw [if_neg ht] at hbw
      have hin : inB t 0 1893455999 = false := by unfold inB; simp; omega
      rw [hin] at HT
      unfold woP
      rw [hbw]
      clear h hE hbw n0 n1 n2 ht hin
      go_enter Tryz.func24, Tryz.ntmps24
      go_wp2_with fail
      refine (HN.out _ HB.out).mono ?_
      rintro e w1 ⟨rfl, hw⟩
      have H1 := hideH (bthen HB.out hw)
      clear hw
      go_wp2_with fail
      refine (HT.out _).mono ?_
      rintro e w2 ⟨rfl, rfl⟩
      go_wp2_with fail
      go_ret2
      exact ⟨H1.out, .inl ⟨by decide, rfl⟩⟩
  · have hbw := bw_bad (t := t) h
    have hq : (nerE X loc p != 0) = true := by rw [bne_iff_ne]; exact h
    have H0 := hideH h
    unfold woP
    rw [hbw]
    clear h hbw hE
    generalize nerE X loc p = K at *
    go_enter Tryz.func24, Tryz.ntmps24
    go_wp2_with fail
    refine (HN.out _ HB.out).mono ?_
    rintro e w1 ⟨rfl, hw⟩
    go_wp2_with fail
    go_ret2
    exact ⟨bthen HB.out hw, .inl ⟨H0.out, rfl⟩⟩
end Go.Proofs.YtmpiijipebngcaaGreatDoor

/- The document's own ParseOf. -/
namespace Go.Proofs.YtmpiijipebngcaaGreatDoor
open Go Go.RowKit Go.Maps
set_option linter.unusedVariables false

/-- what ParseOf answers -/
def poP (X : Wd) (loc : ByteArray) (t p : Int) (s : ByteArray) (w : World) (e : Ending) (w' : World) : Prop :=
  Below w.heap.size w w' ∧ ((bwE X loc t p ≠ 0 ∧ e = .returned (.tuple #[.int .i64 0, .slice none 0 0, .int .i64 (bwE X loc t p)])) ∨ (bwE X loc t p = 0 ∧ ∃ a c, e = .returned (.tuple #[.int .i64 (prN X loc t p s), .slice a (prL X loc t p s).length c, .int .i64 0]) ∧ TX w' a (prL X loc t p s)))
theorem RWords_ok {X : Wd} {loc : ByteArray} {t p : Int} (h : bwE X loc t p = 0) (w : World) (hE : NEnv w X) : Calls Tryz.prog 24 #[X.v, .string loc, .int .i64 t, .int .i64 p] w fun e w' => ∃ a c, e = .returned (.tuple #[.slice a X.D.nz c, .int .i64 0]) ∧ X.D.nz ≤ c ∧ TxB w' a X.D.nz (wsB X loc t p) ∧ w'.ownsRow w.heap.size 9 1 (.slice a X.D.nz c) X.D.nz (srw (wsB X loc t p) X.D.nz) ∧ Below w.heap.size w w' := by
  refine (WordsOf_c X loc t p w hE).mono ?_
  rintro e w' ⟨hb, ⟨h1, _⟩ | ⟨_, v, rfl, ho⟩⟩
  · exact absurd h h1
  · obtain ⟨a, c, rfl, hc, ht⟩ := own_txb ho
    exact ⟨a, c, rfl, hc, ht, ho, hb⟩
theorem RWords_no {X : Wd} {loc : ByteArray} {t p : Int} (h : bwE X loc t p ≠ 0) (w : World) (hE : NEnv w X) : Calls Tryz.prog 24 #[X.v, .string loc, .int .i64 t, .int .i64 p] w fun e w' => e = .returned (.tuple #[.slice none 0 0, .int .i64 (bwE X loc t p)]) ∧ Below w.heap.size w w' := by
  refine (WordsOf_c X loc t p w hE).mono ?_
  rintro e w' ⟨hb, ⟨_, rfl⟩ | ⟨h1, _⟩⟩
  · exact ⟨rfl, hb⟩
  · exact absurd h1 h
/-- the best one of the first k words -/
def BsI (s : ByteArray) (ss : Nat → ByteArray) (k : Nat) (B : ByteArray) : Prop := B.data.toList = s.data.toList.take (Tri.bst s ss k) ∧ B.size = Tri.bst s ss k
theorem bs_take {s : ByteArray} {ss : Nat → ByteArray} {k : Nat} {B : ByteArray} (h : BsI s ss k B) (h1 : B.size < (ss k).size) (h2 : (ss k).size ≤ s.size) (h3 : s.data.toList.take (ss k).size = (ss k).data.toList) : BsI s ss (k + 1) (ss k) := by
  have e : Tri.bst s ss (k + 1) = (ss k).size := by
    rw [Tri.bst_yes ⟨h2, h3⟩]
    have := h.2
    omega
  unfold BsI
  rw [e]
  exact ⟨h3.symm, rfl⟩
theorem bs_keep {s : ByteArray} {ss : Nat → ByteArray} {k : Nat} {B : ByteArray} (h : BsI s ss k B) (h1 : ¬ (B.size < (ss k).size) ∨ ¬ Tri.isPre s (ss k)) : BsI s ss (k + 1) B := by
  have e : Tri.bst s ss (k + 1) = Tri.bst s ss k := by
    by_cases hp : Tri.isPre s (ss k)
    · rw [Tri.bst_yes hp]
      rcases h1 with h1 | h1
      · have := h.2
        omega
      · exact absurd hp h1
    · rw [Tri.bst_no hp]
  unfold BsI
  rw [e]
  exact h
set_option maxRecDepth 100000 in
set_option maxHeartbeats 8000000 in
theorem ParseOf_c (X : Wd) (loc s : ByteArray) (t p : Int) (w : World) (hE : NEnv w X) (hs : s.size ≤ maxLen) : Calls Tryz.prog 25 #[X.v, .string loc, .string s, .int .i64 t, .int .i64 p] w fun e w' => poP X loc t p s w e w' := by
  have HE := hideH hE
  have HB := hideH ((Below.refl _ w).alloc (Nat.le_refl _) (.cells X.cs 30))
  have HX := hideH (World.alloc_heap_new w (.cells X.cs 30))
  obtain ⟨c0, c1, c2, c3, c4⟩ := cells5n HX.out
  by_cases h : bwE X loc t p = 0
  · have HK := hideH (fun v (hv : Below w.heap.size w v) => RWords_ok h v (HE.out.on hv))
    have hnz := ws_nz h
    have HIn := hideH (fun j (hj : j < X.D.nz) => ws_in h hj)
    have HEnd : Hid (Tri.bst s (wsB X loc t p) X.D.nz = prN X loc t p s) := Tri.bst_all (ws_bld h) s
    have HPL : Hid (∀ B : ByteArray, BsI s (wsB X loc t p) X.D.nz B → srt (clL X.D (wsB X loc t p) B.data.toList X.D.nz) = prL X loc t p s ∧ B.size = prN X loc t p s) := fun B hB => by
      rw [hB.1, HEnd.out]
      exact ⟨rfl, by rw [hB.2, HEnd.out]⟩
    have H0 := hideH h
    obtain ⟨i0, hi, hz0, hz1, hz2⟩ := info_parts info_str
    unfold poP
    unfold maxLen at hs
    generalize wsB X loc t p = ss at *
    generalize prL X loc t p s = PL at *
    generalize prN X loc t p s = PN at *
    clear h hE HEnd
    go_enter Tryz.func25, Tryz.ntmps25
    go_wp2_with fail
    refine (HK.out _ HB.out).mono ?_
    rintro e w1 ⟨wa, wc, rfl, hwc, hT, -, hw⟩
    have H1 := hideH (bthen HB.out hw)
    have C1 := hideH (heap_on HX.out hw)
    have T1 := hideH hT
    clear hw hT hwc c0 c1 c2 c3 c4 HX HB HK
    go_wp2_with fail
    go_loopw [15, 16] (fun x15 x16 v => ∃ (k : Nat) (B : ByteArray), k ≤ X.D.nz ∧ x16 = .int .i64 k ∧ x15 = .string B ∧ B.size ≤ 12 ∧ Hid (BsI s ss k B) ∧ Hid (Below w1.heap.size w1 v)) (fun _ x16 _ => X.D.nz - (intOf x16).toNat)
    case atStart => exact ⟨0, ⟨#[]⟩, Nat.zero_le _, rfl, rfl, Nat.zero_le _, ⟨by simp [Tri.bst], rfl⟩, Below.refl _ _⟩
    case round =>
      obtain ⟨k, B, hk, rfl, rfl, hB12, QB, QW⟩ := hrel
      by_cases hlt : k < X.D.nz
      · rcases Tri.TxA.on T1.out QW.out with h0 | ⟨b2, off2, hsb, hcs2⟩
        · omega
        have g0 := hcs2 k hlt
        clear hcs2
        have hki : (k : Int) < (X.D.nz : Int) := by omega
        have hk0 : decide ((k : Int) < 0) = false := by simp
        have hkd : decide (X.D.nz ≤ k) = false := by simp; omega
        obtain ⟨i1, i2⟩ := HIn.out k hlt
        obtain ⟨Wk, hWk⟩ : ∃ Wk, Wk = ss k := ⟨_, rfl⟩
        rw [← hWk] at g0 i1 i2
        have HWk := hideH hWk
        clear hWk
        by_cases q1 : B.size < Wk.size
        · have q1i : (B.size : Int) < (Wk.size : Int) := by omega
          by_cases q2 : Wk.size ≤ s.size
          · have q2i : (Wk.size : Int) ≤ (s.size : Int) := by omega
            cases q3 : (List.take Wk.size s.data.toList == Wk.data.toList)
            · have QB2 : Hid (BsI s ss (k + 1) B) := bs_keep QB.out (.inr (by rw [← HWk.out]; exact fun hp => beq_eq_false_iff_ne.1 q3 hp.2))
              have q3b : ((s.extract 0 Wk.size).toList == Wk.toList) = false := by rw [tl, tl]; simpa using q3
              go_wp2_with fail
              go_quiet (fail)
              go_wp2_with fail
              try simp only [← hsb]
              go_roundw
              case rel => exact ⟨k + 1, B, by omega, by go_num, rfl, hB12, QB2, below_drewN QW.out _⟩
              case measure => simp [intOf]; omega
            · have QB2 : Hid (BsI s ss (k + 1) Wk) := by rw [HWk.out]; exact bs_take QB.out (by rw [← HWk.out]; exact q1) (by rw [← HWk.out]; exact q2) (by rw [← HWk.out]; exact beq_iff_eq.1 q3)
              have q3b : ((s.extract 0 Wk.size).toList == Wk.toList) = true := by rw [tl, tl]; simpa using q3
              go_wp2_with fail
              go_quiet (fail)
              go_wp2_with fail
              try simp only [← hsb]
              go_roundw
              case rel => exact ⟨k + 1, Wk, by omega, by go_num, rfl, i2, QB2, below_drewN QW.out _⟩
              case measure => simp [intOf]; omega
          · have q2i : ¬ ((Wk.size : Int) ≤ (s.size : Int)) := by omega
            have QB2 : Hid (BsI s ss (k + 1) B) := bs_keep QB.out (.inr (by rw [← HWk.out]; exact fun hp => q2 hp.1))
            go_wp2_with fail
            go_quiet (fail)
            go_wp2_with fail
            try simp only [← hsb]
            go_roundw
            case rel => exact ⟨k + 1, B, by omega, by go_num, rfl, hB12, QB2, below_drewN QW.out _⟩
            case measure => simp [intOf]; omega
        · have q1i : ¬ ((B.size : Int) < (Wk.size : Int)) := by omega
          have QB2 : Hid (BsI s ss (k + 1) B) := bs_keep QB.out (.inl (by rw [← HWk.out]; exact q1))
          go_wp2_with fail
          go_quiet (fail)
          go_wp2_with fail
          try simp only [← hsb]
          go_roundw
          case rel => exact ⟨k + 1, B, by omega, by go_num, rfl, hB12, QB2, below_drewN QW.out _⟩
          case measure => simp [intOf]; omega
      · obtain rfl : k = X.D.nz := by omega
        have hki : ¬ ((X.D.nz : Int) < (X.D.nz : Int)) := by omega
        obtain ⟨p1, p2⟩ := HPL.out B QB.out
        obtain ⟨wL, hwL⟩ : ∃ wL, wL = wr := ⟨_, rfl⟩
        rw [← hwL] at QW
        simp only [← hwL]
        clear hwL
        have HL := hideH (bthen H1.out QW.out)
        have CL := hideH (heap_on C1.out QW.out)
        have TL := hideH (Tri.TxA.on T1.out QW.out)
        have P1' := hideH p1
        subst p2
        clear H1 C1 T1 p1 HPL QB
        go_wp2_with fail
        go_loopw [17, 18] (fun x17 x18 v => ∃ k : Nat, k ≤ X.D.nz ∧ x18 = .int .i64 k ∧ Hid (v.ownsRow wL.heap.size 9 1 x17 (clL X.D ss B.data.toList k).length ((clL X.D ss B.data.toList k).map encStr)) ∧ Hid (Below wL.heap.size wL v)) (fun _ x18 _ => X.D.nz - (intOf x18).toNat)
        case atStart => exact ⟨0, Nat.zero_le _, rfl, World.ownsRow_nil _ _ _ _, Below.refl _ _⟩
        case round =>
          obtain ⟨k, hk2, rfl, QO, QV⟩ := hrel
          obtain ⟨c0, c1, c2, c3, c4⟩ := cells5n (heap_on CL.out QV.out)
          have hcl := clL_len X.D ss B.data.toList k
          by_cases hlt2 : k < X.D.nz
          · rcases (HE.out.on (bthen HL.out QV.out)).ue.env.dat.zones with h0 | ⟨b, off, hsa, hcs⟩
            · omega
            obtain ⟨f0, f1⟩ := hcs k hlt2
            rcases Tri.TxA.on TL.out QV.out with h0 | ⟨b2, off2, hsb, hcs2⟩
            · omega
            have g0 := hcs2 k hlt2
            rw [hsa] at c1
            clear hcs hcs2 f1 hsa
            have hki2 : (k : Int) < (X.D.nz : Int) := by omega
            have hk0 : decide ((k : Int) < 0) = false := by simp
            have hkd : decide (X.D.nz ≤ k) = false := by simp; omega
            cases hq : ((ss k).toList == B.toList)
            · have O2 : Hid (wr.ownsRow wL.heap.size 9 1 u17 (clL X.D ss B.data.toList (k + 1)).length ((clL X.D ss B.data.toList (k + 1)).map encStr)) := by
                have e : clL X.D ss B.data.toList (k + 1) = clL X.D ss B.data.toList k := by
                  rw [tl, tl] at hq
                  rw [clL_succ, hq, if_neg (by decide), List.append_nil]
                show World.ownsRow _ _ _ _ _ _ _
                rw [e]
                exact QO.out
              go_wp2_with fail
              try simp only [← hsb]
              go_roundw
              case rel => exact ⟨k + 1, by omega, by go_num, O2, QV⟩
              case measure => simp [intOf]; omega
            · have HEq : Hid (clL X.D ss B.data.toList (k + 1) = clL X.D ss B.data.toList k ++ [(X.D.zs k).nm.data.toList]) := by
                show _ = _
                rw [tl, tl] at hq
                rw [clL_succ, hq, if_pos rfl]
              have bs := (Below.refl _ wr).alloc (Nat.le_refl _) (.cells #[.string (X.D.zs k).nm] 9)
              have O4 := hideH (own_onB QO.out bs)
              have B4 := hideH (bthen QV.out bs)
              have hsw := QV.out.size
              clear bs
              go_wp2_with (at_builtin; refine wpList_append_lies _ rfl _ _ 56 rfl wL.heap.size 9 i0 (.string ⟨#[]⟩) 1 16 Tryz.underlying56 hi hz0 hz1 hz2 rfl (by decide) _ _ _ rfl O4.out ⟨wr.heap.size, 0, none⟩ 1 1 [.string (X.D.zs k).nm] rfl rfl (cell_one_new _ _ _) (by simp [Value.oneCell']) (by decide) (by unfold maxLen; omega) (by omega) (by simp; omega) _ rfl ?_; intro g5 q5 w5 hown5 hgrow5 hat5 hl5)
              have O5 : Hid (w5.ownsRow wL.heap.size 9 1 (.slice (some ⟨g5, 0, none⟩) ((clL X.D ss B.data.toList k).length + 1) q5) (clL X.D ss B.data.toList (k + 1)).length ((clL X.D ss B.data.toList (k + 1)).map encStr)) := by
                show World.ownsRow _ _ _ _ _ _ _
                rw [HEq.out, List.map_append, List.map_singleton, enc_nm, List.length_append]
                exact hown5
              have B5 : Hid (Below wL.heap.size wL w5) := B4.out.grown hgrow5 (by have := B4.out.size; omega) (fun q hq => (own_lt O4.out hq).1)
              clear hown5 hgrow5 hat5 hl5 O4 B4
              try simp only [← hsb]
              go_roundw
              case rel => exact ⟨k + 1, by omega, by go_num, O5, B5⟩
              case measure => simp [intOf]; omega
          · obtain rfl : k = X.D.nz := by omega
            obtain ⟨a2, c2', hv, hc2, htx⟩ := TX_own (l := clL X.D ss B.data.toList X.D.nz) rfl QO.out
            subst hv
            have HS := hideH (sorted_c a2 c2' (clL X.D ss B.data.toList X.D.nz) wr htx (by omega))
            unfold sorP at HS
            rw [P1'.out] at HS
            clear htx hc2
            go_wp2_with fail
            refine HS.out.mono ?_
            rintro e w6 ⟨a6, c6, rfl, -, htx6, hw6⟩
            have T6 := hideH htx6
            have H6 := hideH (bthen (bthen HL.out QV.out) hw6)
            clear htx6 hw6 c0 c1 c2 c3 c4
            go_wp2_with fail
            go_ret3
            exact ⟨H6.out, .inr ⟨H0.out, a6, c6, rfl, T6.out⟩⟩
  · have HK := hideH (fun v (hv : Below w.heap.size w v) => RWords_no h v (HE.out.on hv))
    have hq : (bwE X loc t p != 0) = true := by rw [bne_iff_ne]; exact h
    have H0 := hideH h
    unfold poP
    clear h hE
    generalize bwE X loc t p = K at *
    go_enter Tryz.func25, Tryz.ntmps25
    go_wp2_with fail
    refine (HK.out _ HB.out).mono ?_
    rintro e w1 ⟨rfl, hw⟩
    go_wp2_with fail
    go_ret3
    exact ⟨bthen HB.out hw, .inl ⟨H0.out, rfl⟩⟩
end Go.Proofs.YtmpiijipebngcaaGreatDoor
