/- The document's own WordsOf. -/
import Derived.Test.YtfjjdicgekgbeaaGreatDoorBackCAll
import Derived.Test.YtfjjdicgekgbeaaGreatDoorNamesTAll
import Derived.Deep.RegionHeldLaw
import Derived.Deep.AppendLies
import Derived.Test.YtfjjdicgekgbeaaGreatDoorTrieQAll
import Derived.Test.YtfjjdicgekgbeaaGreatDoorUsesSAll
import Derived.Deep.QuietTactic
import Derived.BigQuiet
namespace Go.Proofs.YtfjjdicgekgbeaaGreatDoor
open Go Go.RowKit Go.Maps
set_option linter.unusedVariables false

theorem bw_bad {X : Wd} {loc : ByteArray} {t p : Int} (h : nerE X loc p ≠ 0) : bwE X loc t p = nerE X loc p := by
  unfold nerE at h ⊢
  unfold bwE
  split
  · rename_i h0
    rw [if_pos h0] at h
    split
    · rename_i h1
      rw [if_pos h1] at h
      by_cases h2 : btE X.bs X.bn loc = 0
      · rw [if_pos h2] at h; exact absurd rfl h
      · rw [if_neg h2, if_neg h2]
    · rfl
  · rfl
theorem bw_time {X : Wd} {loc : ByteArray} {t p : Int} (h : nerE X loc p = 0) : bwE X loc t p = if 0 ≤ t ∧ t < 1893456000 then 0 else 3 := by
  obtain ⟨h0, h1, h2⟩ := ner_ok h
  unfold bwE
  rw [if_pos h0, if_pos h1, if_pos h2]
set_option maxRecDepth 100000 in
set_option maxHeartbeats 8000000 in
theorem WordsOf_c (X : Wd) (loc : ByteArray) (t p : Int) (w : World) (hE : NEnv w X) : Calls Tryz.prog 9 #[X.v, .string loc, .int .i64 t, .int .i64 p] w fun e w' => woP X loc t p w e w' := by
  have HE := hideH hE
  have HB := hideH ((Below.refl _ w).alloc (Nat.le_refl _) (.cells X.cs 30))
  have HX := hideH (World.alloc_heap_new w (.cells X.cs 30))
  obtain ⟨c0, c1, c2, c3, c4⟩ := cells5n HX.out
  have HN := hideH (fun v (hv : Below w.heap.size w v) => NameError_c X loc t p v (HE.out.on hv))
  have HT := hideH (fun v => isTime_c t v)
  by_cases h : nerE X loc p = 0
  · have hbw := bw_time (t := t) h
    obtain ⟨n0, n1, n2⟩ := ner_ok h
    rw [h] at HN
    by_cases ht : 0 ≤ t ∧ t < 1893456000
    · rw [if_pos ht] at hbw
      have hnz := ws_nz hbw
      obtain ⟨b, hb1, hb2⟩ := bix_ok n0 n2
      have hb4 := (bchk_parts (nchk_ok n0).2).1
      have HK := hideH (fun v (hv : Below w.heap.size w v) => bookAt_c X.ba X.bn X.bc X.bs loc v (by omega) (HE.out.on hv).bat)
      rw [hb1] at HK
      have HC : Hid (∀ k, k < X.D.nz → ∀ v, Below w.heap.size w v → Calls Tryz.prog 24 #[X.v, .int .i64 b, .int .i64 k, .int .i64 t, .int .i64 p] v fun e w' => e = .returned (.string (wsB X loc t p k)) ∧ Below v.heap.size v w') := fun k hk v hv => by
        have := Rcalled_c X b k t p v (HE.out.on hv) n0 hb2 hk ht.1 ht.2
        rw [clK_nm (zone_nm hbw hk) hb1 (zone_told (uchk_ok (nchk_ok n0).1).1 hk).1 hk] at this
        exact this
      have hin : inB t 0 1893455999 = true := by unfold inB; simp; omega
      rw [hin] at HT
      obtain ⟨i0, hi, hz0, hz1, hz2⟩ := info_parts info_str
      have H0 := hideH hbw
      clear h hE hbw n0 n1 n2 ht hb1 hb2 hb4 hin
      go_enter Tryz.func9, Tryz.ntmps9
      go_wp2_with fail
      refine (HN.out _ HB.out).mono ?_
      rintro e w1 ⟨rfl, hw⟩
      have H1 := hideH (bthen HB.out hw)
      have C1 := hideH (heap_on HX.out hw)
      clear hw c0 c1 c2 c3 c4 HX HB HN
      go_wp2_with fail
      refine (HT.out _).mono ?_
      rintro e w2 ⟨rfl, rfl⟩
      go_wp2_with fail
      go_loopw [11, 12] (fun x11 x12 v => ∃ k : Nat, k ≤ X.D.nz ∧ x12 = .int .i64 k ∧ Hid (v.ownsRow (w.heap.size + 1) 9 1 x11 k (srw (wsB X loc t p) k)) ∧ Hid (Below w.heap.size w v) ∧ Hid (v.heap[w.heap.size]? = some (.cells X.cs 30))) (fun _ x12 _ => X.D.nz - (intOf x12).toNat)
      case atStart => exact ⟨0, Nat.zero_le _, rfl, World.ownsRow_nil _ _ _ _, H1, C1⟩
      case round =>
        obtain ⟨k, hk, rfl, QO, QW, QC⟩ := hrel
        clear H1 C1
        have C3 : Hid (bxW w.heap.size X wr) := cells5n QC.out
        obtain ⟨c0, c1, c2, c3, c4⟩ := C3.out
        by_cases hlt : k < X.D.nz
        · have hki : (k : Int) < (X.D.nz : Int) := by omega
          have HC1 := hideH (HC.out k hlt)
          have hsz : w.heap.size + 1 ≤ wr.heap.size := (Array.getElem?_eq_some_iff.1 QC.out).1
          have HAp : Hid (∀ w4 w5, Below wr.drew.heap.size wr.drew w4 → Below w4.heap.size w4 w5 → (w5.alloc (.cells #[.string (wsB X loc t p k)] 9)).ownsRow (w.heap.size + 1) 9 1 u11 k (srw (wsB X loc t p) k) ∧ Below w.heap.size w (w5.alloc (.cells #[.string (wsB X loc t p k)] 9)) ∧ (w5.alloc (.cells #[.string (wsB X loc t p k)] 9)).heap[w.heap.size]? = some (.cells X.cs 30) ∧ w.heap.size + 1 ≤ (w5.alloc (.cells #[.string (wsB X loc t p k)] 9)).heap.size) := fun w4 w5 h4 h5 => by
            have b0 : Below wr.heap.size wr wr.drew := (Below.refl _ wr).drew
            have bs := (Below.refl _ w5).alloc (Nat.le_refl _) (.cells #[.string (wsB X loc t p k)] 9)
            have hh := heap_on (heap_on (heap_on (heap_on QC.out b0) h4) h5) bs
            exact ⟨own_onB (own_onB (own_onB (own_onB QO.out b0) h4) h5) bs, bthen (bthen (bthen (bthen QW.out b0) h4) h5) bs, hh, (Array.getElem?_eq_some_iff.1 hh).1⟩
          go_wp2_with fail
          go_region_held_law (fun v => bxW w.heap.size X v)
            (first | (exact C3.out) | (exact bxW_on (w := wr) C3.out (Below.refl _ wr).drew) | (exact bxW_on (w := wr.drew) C3.out hw4) | (exact bxW_on (bxW_on (w := wr.drew) C3.out hw4) hw5) | (exact cells5n (HAp.out _ _ hw4 hw5).2.2.1) | (exact cells5n (heap_grownB (HAp.out _ _ hw4 hw5).2.2.1 hgrow6 (far_boxB (HAp.out _ _ hw4 hw5).1 (by omega)))))
            (first
            | (go_at_call 25; refine (HK.out _ (by exact QW.out.drew)).mono ?_; rintro e w4 ⟨rfl, hw4⟩)
            | (go_at_call 24; refine (HC1.out _ (by exact bthen (w := w) (a := wr.drew) QW.out.drew hw4)).mono ?_; rintro e w5 ⟨rfl, hw5⟩)
            | (refine step_append_lies _ rfl _ _ 31 rfl (w.heap.size + 1) 9 i0 (.string ⟨#[]⟩) 1 16 Tryz.underlying31 hi hz0 hz1 hz2 rfl (by decide) _ _ _ rfl (HAp.out _ _ hw4 hw5).1 ⟨w5.heap.size, 0, none⟩ 1 1 [.string (wsB X loc t p k)] rfl rfl (cell_one_new _ _ _) (by simp [Value.oneCell']) (by decide) (by unfold maxLen; omega) (by omega) (HAp.out _ _ hw4 hw5).2.2.2 _ rfl ?_; intro g6 q6 w6 hown6 hgrow6 hat6 hl6))
          all_goals
            have O5 : Hid (w6.ownsRow (w.heap.size + 1) 9 1 (.slice (some ⟨g6, 0, none⟩) (k + 1) q6) (k + 1) (srw (wsB X loc t p) (k + 1))) := by
              show World.ownsRow _ _ _ _ _ _ _
              rw [srw_succ]
              exact hown6
            have B5 : Hid (Below w.heap.size w w6) := (HAp.out _ _ hw4 hw5).2.1.grown hgrow6 (by have := (HAp.out _ _ hw4 hw5).2.1.size; omega) (fun q hq => by have := (own_lt (HAp.out _ _ hw4 hw5).1 hq).1; omega)
            have C5 := hideH (heap_grownB (HAp.out _ _ hw4 hw5).2.2.1 hgrow6 (far_boxB (HAp.out _ _ hw4 hw5).1 (by omega)))
            clear hown6 hgrow6 hat6 hl6 hw4 hw5 c0 c1 c2 c3 c4
            go_wp2_with fail
            go_roundw
            case rel => exact ⟨k + 1, by omega, by go_num, O5, B5, C5⟩
            case measure => simp [intOf]; omega
        · obtain rfl : k = X.D.nz := by omega
          have hki : ¬ ((X.D.nz : Int) < (X.D.nz : Int)) := by omega
          go_wp2_with fail
          go_ret2
          unfold woP
          exact ⟨QW.out, .inr ⟨H0.out, _, rfl, owns_monoB QO.out (by omega)⟩⟩
    · rw [if_neg ht] at hbw
      have hin : inB t 0 1893455999 = false := by unfold inB; simp; omega
      rw [hin] at HT
      unfold woP
      rw [hbw]
      clear h hE hbw n0 n1 n2 ht hin
      go_enter Tryz.func9, Tryz.ntmps9
      go_wp2_with fail
      refine (HN.out _ HB.out).mono ?_
      rintro e w1 ⟨rfl, hw⟩
      have H1 := hideH (bthen HB.out hw)
      clear hw
      go_wp2_with fail
      refine (HT.out _).mono ?_
      rintro e w2 ⟨rfl, rfl⟩
      go_wp2_with fail
      go_ret2
      exact ⟨H1.out, .inl ⟨by decide, rfl⟩⟩
  · have hbw := bw_bad (t := t) h
    have hq : (nerE X loc p != 0) = true := by rw [bne_iff_ne]; exact h
    have H0 := hideH h
    unfold woP
    rw [hbw]
    clear h hbw hE
    generalize nerE X loc p = K at *
    go_enter Tryz.func9, Tryz.ntmps9
    go_wp2_with fail
    refine (HN.out _ HB.out).mono ?_
    rintro e w1 ⟨rfl, hw⟩
    go_wp2_with fail
    go_ret2
    exact ⟨bthen HB.out hw, .inl ⟨H0.out, rfl⟩⟩
end Go.Proofs.YtfjjdicgekgbeaaGreatDoor

/- The document's own ParseOf. -/
namespace Go.Proofs.YtfjjdicgekgbeaaGreatDoor
open Go Go.RowKit Go.Maps
set_option linter.unusedVariables false

/-- what ParseOf answers -/
def poP (X : Wd) (loc : ByteArray) (t p : Int) (s : ByteArray) (w : World) (e : Ending) (w' : World) : Prop :=
  Below w.heap.size w w' ∧ ((bwE X loc t p ≠ 0 ∧ e = .returned (.tuple #[.int .i64 0, .slice none 0 0, .int .i64 (bwE X loc t p)])) ∨ (bwE X loc t p = 0 ∧ ∃ a c, e = .returned (.tuple #[.int .i64 (prN X loc t p s), .slice a (prL X loc t p s).length c, .int .i64 0]) ∧ TX w' a (prL X loc t p s)))
theorem RWords_ok {X : Wd} {loc : ByteArray} {t p : Int} (h : bwE X loc t p = 0) (w : World) (hE : NEnv w X) : Calls Tryz.prog 9 #[X.v, .string loc, .int .i64 t, .int .i64 p] w fun e w' => ∃ a c, e = .returned (.tuple #[.slice a X.D.nz c, .int .i64 0]) ∧ X.D.nz ≤ c ∧ TxB w' a X.D.nz (wsB X loc t p) ∧ w'.ownsRow w.heap.size 9 1 (.slice a X.D.nz c) X.D.nz (srw (wsB X loc t p) X.D.nz) ∧ Below w.heap.size w w' := by
  refine (WordsOf_c X loc t p w hE).mono ?_
  rintro e w' ⟨hb, ⟨h1, _⟩ | ⟨_, v, rfl, ho⟩⟩
  · exact absurd h h1
  · obtain ⟨a, c, rfl, hc, ht⟩ := own_txb ho
    exact ⟨a, c, rfl, hc, ht, ho, hb⟩
theorem RWords_no {X : Wd} {loc : ByteArray} {t p : Int} (h : bwE X loc t p ≠ 0) (w : World) (hE : NEnv w X) : Calls Tryz.prog 9 #[X.v, .string loc, .int .i64 t, .int .i64 p] w fun e w' => e = .returned (.tuple #[.slice none 0 0, .int .i64 (bwE X loc t p)]) ∧ Below w.heap.size w w' := by
  refine (WordsOf_c X loc t p w hE).mono ?_
  rintro e w' ⟨hb, ⟨_, rfl⟩ | ⟨h1, _⟩⟩
  · exact ⟨rfl, hb⟩
  · exact absurd h1 h
/-- the best one of the first k words -/
def BsI (s : ByteArray) (ss : Nat → ByteArray) (k : Nat) (B : ByteArray) : Prop := B.data.toList = s.data.toList.take (Tri.bst s ss k) ∧ B.size = Tri.bst s ss k
theorem bs_take {s : ByteArray} {ss : Nat → ByteArray} {k : Nat} {B : ByteArray} (h : BsI s ss k B) (h1 : B.size < (ss k).size) (h2 : (ss k).size ≤ s.size) (h3 : s.data.toList.take (ss k).size = (ss k).data.toList) : BsI s ss (k + 1) (ss k) := by
  have e : Tri.bst s ss (k + 1) = (ss k).size := by
    rw [Tri.bst_yes ⟨h2, h3⟩]
    have := h.2
    omega
  unfold BsI
  rw [e]
  exact ⟨h3.symm, rfl⟩
theorem bs_keep {s : ByteArray} {ss : Nat → ByteArray} {k : Nat} {B : ByteArray} (h : BsI s ss k B) (h1 : ¬ (B.size < (ss k).size) ∨ ¬ Tri.isPre s (ss k)) : BsI s ss (k + 1) B := by
  have e : Tri.bst s ss (k + 1) = Tri.bst s ss k := by
    by_cases hp : Tri.isPre s (ss k)
    · rw [Tri.bst_yes hp]
      rcases h1 with h1 | h1
      · have := h.2
        omega
      · exact absurd hp h1
    · rw [Tri.bst_no hp]
  unfold BsI
  rw [e]
  exact h
end Go.Proofs.YtfjjdicgekgbeaaGreatDoor
