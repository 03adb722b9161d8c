/- The walk of the statement NamesHeir: it returns true, and nothing that lay in memory has turned. -/
import Derived.Test.YtmpiijipebngcaaGreatDoorNamesI
import Derived.Laws.OwnMore
namespace Go.Proofs.YtmpiijipebngcaaGreatDoor
open Go Go.RowKit Go.Maps
set_option linter.unusedVariables false

set_option maxRecDepth 100000 in
set_option maxHeartbeats 8000000 in
theorem NamesHeir_w (X : Wd) (zn : ByteArray) (t p ci : Int) (w : World) (hE : NEnv w X) (hs : zn.size ≤ maxLen) (ht : -9223372036854775808 ≤ t ∧ t ≤ 9223372036854775807) (hp : -9223372036854775808 ≤ p ∧ p ≤ 9223372036854775807) (hci : -9223372036854775808 ≤ ci ∧ ci ≤ 9223372036854775807) :
    Calls Tryz.prog 6 #[X.v, .string zn, .int .i64 t, .int .i64 p, .int .i64 ci] w fun e w' => e = .returned (.bool true) ∧ Below w.heap.size w w' := by
  have HE := hideH hE
  have HB := hideH ((Below.refl _ w).alloc (Nat.le_refl _) (.cells X.cs 30))
  have HC := hideH (World.alloc_heap_new w (.cells X.cs 30))
  obtain ⟨c0, c1, c2, c3, c4⟩ := cells5n HC.out
  have HK := hideH (fun v (hv : Below w.heap.size w v) => NCheck_c X v (HE.out.on hv))
  have HG := hideH (fun v (hv : Below w.heap.size w v) => namesBegun_c v (HE.out.on hv).ue.env.laid (HE.out.on hv).ue.env.mx)
  have hbl := hE.bl
  unfold maxLen at hbl
  have key : (nchk X ≠ 0 ∨ nchk X = 0 ∧ (X.bn = 0 ∨ 0 < X.bn ∧ 4 ≤ X.bn)) ∨ (nchk X = 0 ∧ 0 < X.bn ∧ X.bn < 4) := by omega
  rcases key with hk | ⟨k1, k2, k3⟩
  · have hk2 : (nchk X != 0) = true ∨ (nchk X = 0 ∧ (X.bn = 0 ∨ ((X.bn : Int) == 0) = false ∧ (4 : Int) ≤ (X.bn : Int))) := by
      rcases hk with h | ⟨h, h'⟩
      · exact .inl (by rw [bne_iff_ne]; exact h)
      · refine .inr ⟨h, ?_⟩
        rcases h' with h' | ⟨h', h''⟩
        · exact .inl h'
        · exact .inr ⟨by rw [beq_eq_false_iff_ne]; omega, by omega⟩
    clear hk hE
    generalize nchk X = e1 at *
    rcases hk2 with hk | ⟨rfl, hk⟩
    · go_enter Tryz.func6, Tryz.ntmps6
      go_wp2_with fail
      refine (HK.out _ HB.out).mono ?_
      rintro e w1 ⟨rfl, hw⟩
      have H1 := hideH (bthen HB.out hw)
      clear hw
      go_wp2_with fail
      refine (HG.out _ H1.out).mono ?_
      rintro e w2 ⟨rfl, hw⟩
      go_wp2_with fail
      go_ret
      exact ⟨rfl, bthen H1.out hw⟩
    · rcases hk with hk | ⟨hk, hk4⟩
      · have hk0 : ((X.bn : Int) == 0) = true := by rw [hk]; rfl
        clear hk
        go_enter Tryz.func6, Tryz.ntmps6
        go_wp2_with fail
        refine (HK.out _ HB.out).mono ?_
        rintro e w1 ⟨rfl, hw⟩
        have H1 := hideH (bthen HB.out hw)
        have C1 := hideH (heap_on HC.out hw)
        clear hw c0 c1 c2 c3 c4
        obtain ⟨c0, c1, c2, c3, c4⟩ := cells5n C1.out
        go_wp2_with fail
        refine (HG.out _ H1.out).mono ?_
        rintro e w2 ⟨rfl, hw⟩
        go_wp2_with fail
        go_ret
        exact ⟨rfl, bthen H1.out hw⟩
      · go_enter Tryz.func6, Tryz.ntmps6
        go_wp2_with fail
        refine (HK.out _ HB.out).mono ?_
        rintro e w1 ⟨rfl, hw⟩
        have H1 := hideH (bthen HB.out hw)
        have C1 := hideH (heap_on HC.out hw)
        clear hw c0 c1 c2 c3 c4
        obtain ⟨c0, c1, c2, c3, c4⟩ := cells5n C1.out
        go_wp2_with fail
        refine (HG.out _ H1.out).mono ?_
        rintro e w2 ⟨rfl, hw⟩
        go_wp2_with fail
        go_ret
        exact ⟨rfl, bthen H1.out hw⟩
  · have hb4 : X.bn ≤ 4 := by omega
    obtain ⟨j, hjl, hj⟩ : ∃ j : Nat, j < X.bn ∧ cho ci X.bn = j := by
      have hp' : (0 : Int) < X.bn := by omega
      have h1 : 0 ≤ cho ci X.bn ∧ cho ci X.bn < X.bn := by
        unfold cho
        split
        · exact ⟨Int.emod_nonneg _ (by omega), Int.emod_lt_of_pos _ hp'⟩
        · exact ⟨Int.emod_nonneg _ (by omega), Int.emod_lt_of_pos _ hp'⟩
      exact ⟨(cho ci X.bn).toNat, by omega, by omega⟩
    have HCH : Hid (∀ v, Calls Tryz.prog 21 #[.int .i64 ci, .int .i64 X.bn] v fun e w' => e = .returned (.int .i64 j) ∧ w' = v) := fun v => by
      have := choose_law ci X.bn v (by omega) (by omega) hci.1 hci.2
      rwa [hj] at this
    have hk0 : ((X.bn : Int) == 0) = false := by rw [beq_eq_false_iff_ne]; omega
    have hk4 : ¬ ((4 : Int) ≤ (X.bn : Int)) := by omega
    have HN := hideH k1
    have HF := hideH hE.bf
    obtain ⟨i0, hi, hz0, hz1, hz2⟩ := info_parts info_book
    rw [k1] at HK
    clear hj k1 hE
    go_enter Tryz.func6, Tryz.ntmps6
    go_wp2_with fail
    refine (HK.out _ HB.out).mono ?_
    rintro e w1 ⟨rfl, hw⟩
    have H1 := hideH (bthen HB.out hw)
    have C1 := hideH (heap_on HC.out hw)
    clear hw c0 c1 c2 c3 c4 HB HC HK
    obtain ⟨c0, c1, c2, c3, c4⟩ := cells5n C1.out
    go_wp2_with fail
    refine (HCH.out _).mono ?_
    rintro e w2 ⟨rfl, rfl⟩
    go_wp2_with fail
    go_loopw [12] (fun x12 v => ∃ b : Nat, b ≤ X.bn ∧ x12 = .int .i64 b ∧ Hid (∀ i, i < b → (X.bs i).lc.data.toList ≠ heirB.data.toList) ∧ Hid (Below w.heap.size w v) ∧ Hid (v.heap[w.heap.size]? = some (.cells X.cs 30))) (fun x12 _ => X.bn - (intOf x12).toNat)
    case atStart => exact ⟨0, Nat.zero_le _, rfl, fun i h => absurd h (Nat.not_lt_zero _), H1, C1⟩
    case round =>
      obtain ⟨b, hb, rfl, QN, QW, QC⟩ := hrel
      clear c0 c1 c2 c3 c4 H1 C1
      obtain ⟨c0, c1, c2, c3, c4⟩ := cells5n QC.out
      by_cases hlt : b < X.bn
      · rcases (HE.out.on QW.out).bat.rows with h0 | ⟨bb, off, hsa, hcs⟩
        · omega
        obtain ⟨d0, d1, d2⟩ := hcs b hlt
        rw [hsa] at c4
        clear hcs d1 d2 hsa
        have hbi : (b : Int) < (X.bn : Int) := by omega
        cases hq : ((X.bs b).lc.toList == [104, 101, 105, 114])
        · have QN2 : Hid (∀ i, i < b + 1 → (X.bs i).lc.data.toList ≠ heirB.data.toList) := fun i h => by
            by_cases e : i = b
            · subst e
              rw [tl] at hq
              exact beq_eq_false_iff_ne.1 hq
            · exact QN.out i (by omega)
          go_wp2_with fail
          go_roundw
          case rel => exact ⟨b + 1, by omega, by go_num, QN2, QW, QC⟩
          case measure => simp [intOf]; omega
        · go_wp2_with fail
          refine (HG.out _ QW.out).mono ?_
          rintro e w3 ⟨rfl, hw⟩
          go_wp2_with fail
          go_ret
          exact ⟨rfl, bthen QW.out hw⟩
      · obtain rfl : b = X.bn := by omega
        have hbi : ¬ ((X.bn : Int) < (X.bn : Int)) := by omega
        have HNm := hideH (fun a c => heir_nm (X := X) (k := j) HN.out k3 hjl QN.out a c zn t p)
        have HE0 := hideH (HE.out.on QW.out)
        have B1 : Hid (Below wr.heap.size wr (wr.alloc (.cells X.cs 30))) := (Below.refl _ wr).alloc (Nat.le_refl _) _
        have hs1 : (wr.alloc (.cells X.cs 30)).heap.size = wr.heap.size + 1 := by simp
        have X1 := hideH (World.alloc_heap_new wr (.cells X.cs 30))
        have B2 : Hid (Below (wr.heap.size + 1) (wr.alloc (.cells X.cs 30)) ((wr.alloc (.cells X.cs 30)).alloc (.cells #[] 54))) := by
          have h := (Below.refl _ (wr.alloc (.cells X.cs 30))).alloc (Nat.le_refl _) (.cells #[] 54)
          rw [hs1] at h
          exact h
        have V2 : Hid (((wr.alloc (.cells X.cs 30)).alloc (.cells #[] 54)).ownsRow (wr.heap.size + 1) 54 3 (.slice (some ⟨wr.heap.size + 1, 0, none⟩) 0 0) 0 []) := by
          have h := World.alloc_heap_new (wr.alloc (.cells X.cs 30)) (.cells #[] 54)
          rw [hs1] at h
          exact own_empty h (Nat.le_refl _)
        have N2 := hideH (bk_news (((HE0.out.on B1.out).on (by have := B2.out; rw [← hs1] at this; exact this)).bat))
        have S2 : Hid (wr.heap.size + 1 ≤ ((wr.alloc (.cells X.cs 30)).alloc (.cells #[] 54)).heap.size) := by show _ ≤ _; simp
        have HS1 := hideH hs1
        clear hs1
        have hwl : w.heap.size < wr.heap.size := (Array.getElem?_eq_some_iff.1 QC.out).1
        go_wp2_with (at_builtin; refine wpList_append_rowN _ rfl _ _ 28 rfl (wr.heap.size + 1) 54 i0 _ 3 48 Tryz.underlying28 hi hz0 hz1 hz2 rfl (by decide) _ _ _ rfl V2.out X.ba X.bn X.bc (bkr X.bs X.bn) rfl (bkr_len _ _) N2.out (bkr_one _ _) (by unfold maxLen; omega) (by omega) S2.out ?_; intro v3 w3 hown3 hgrow3 hat3; refine Hid.out ?_)
        refine hideH ?_
        have B3 := hideH (below_ownN B2.out (by rw [HS1.out]; exact Nat.le_refl _) V2.out hgrow3)
        have O3 : Hid (w3.ownsRow (wr.heap.size + 1) 54 3 v3 X.bn (bkr X.bs X.bn)) := by
          show World.ownsRow _ _ _ _ _ _ _
          rw [Nat.zero_add, List.nil_append] at hown3
          exact hown3
        clear hown3 hgrow3 hat3 V2 N2 S2 B2
        have B4 : Hid (Below w3.heap.size w3 (w3.alloc (.cells #[.string heirB, .int .i64 j, .slice none 0 0] 54))) := (Below.refl _ w3).alloc (Nat.le_refl _) _
        have O4 := hideH (own_onN O3.out B4.out)
        have N4 := hideH (World.news_of_block (World.alloc_heap_new w3 (.cells #[.string heirB, .int .i64 j, .slice none 0 0] 54)))
        have hs3 : wr.heap.size + 1 ≤ w3.heap.size := by have h1 := B3.out.size; rw [HS1.out] at h1; exact h1
        have S4 : Hid (wr.heap.size + 1 ≤ (w3.alloc (.cells #[.string heirB, .int .i64 j, .slice none 0 0] 54)).heap.size) := by
          have h2 := B4.out.size
          show _ ≤ _
          omega
        go_wp2_with (at_builtin; refine wpList_append_lies _ rfl _ _ 28 rfl (wr.heap.size + 1) 54 i0 _ 3 48 Tryz.underlying28 hi hz0 hz1 hz2 rfl (by decide) _ _ _ rfl O4.out ⟨w3.heap.size, 0, none⟩ 1 1 [.string heirB, .int .i64 j, .slice none 0 0] rfl rfl N4.out (by simp [Value.oneCell']) (by decide) (by unfold maxLen; omega) (by omega) S4.out _ rfl ?_; intro g5 q5 w5 hown5 hgrow5 hat5 hl5; refine Hid.out ?_)
        refine hideH ?_
        have B5 : Hid (Below (wr.heap.size + 1) (wr.alloc (.cells X.cs 30)) w5) := below_ownN (B3.out.trans (B4.out.mono hs3)) (by rw [HS1.out]; exact Nat.le_refl _) O4.out hgrow5
        have O5 : Hid (w5.ownsRow (wr.heap.size + 1) 54 3 (.slice (some ⟨g5, 0, none⟩) (X.bn + 1) q5) (X.bn + 1) (bkr (hbs X.bs X.bn j) (X.bn + 1))) := by
          show World.ownsRow _ _ _ _ _ _ _
          rw [← bkr_more]
          exact hown5
        clear hown5 hgrow5 hat5 hl5 O3 O4 B3 B4 N4 S4
        have X5 : Hid (w5.heap[wr.heap.size]? = some (.cells X.cs 30)) := by
          have h := B5.out.block wr.heap.size (by omega)
          exact h.trans X1.out
        have BB5 : Hid (Below w.heap.size w w5) := by
          have h := B5.out
          rw [← HS1.out] at h
          exact bthen (bthen QW.out B1.out) h
        have C5 : Hid (w5.heap[w.heap.size]? = some (.cells X.cs 30)) := by
          have h := B5.out
          rw [← HS1.out] at h
          exact heap_on (heap_on QC.out B1.out) h
        have BB6 : Hid (Below w.heap.size w (w5.setCell ⟨wr.heap.size, 4, none⟩ (.slice (some ⟨g5, 0, none⟩) (X.bn + 1) q5))) := BB5.out.setCell (p := ⟨wr.heap.size, 4, none⟩) (by show w.heap.size ≤ wr.heap.size; omega) _
        have E6 := hideH (heir_env (t := 30) (.slice (some ⟨g5, 0, none⟩) (X.bn + 1) q5) (HE.out.on BB5.out) (HE.out.on BB6.out) X5.out hjl hb4 O5.out)
        have C6 : Hid ((w5.setCell ⟨wr.heap.size, 4, none⟩ (.slice (some ⟨g5, 0, none⟩) (X.bn + 1) q5)).heap[w.heap.size]? = some (.cells X.cs 30)) := by
          show _ = _
          rw [Below.heap_setCell _ _ _ _ (by show w.heap.size ≠ wr.heap.size; omega)]
          exact C5.out
        have X6 : Hid ((w5.setCell ⟨wr.heap.size, 4, none⟩ (.slice (some ⟨g5, 0, none⟩) (X.bn + 1) q5)).heap[wr.heap.size]? = some (.cells (heb X j (some ⟨g5, 0, none⟩) q5).cs 30)) := set_last X5.out
        obtain ⟨y0, y1, y2, y3, y4⟩ := cells5n X5.out
        have fy : w5.frozen? ⟨wr.heap.size, 4, none⟩ = false := frz5 X5.out 4
        clear c0 c1 c2 c3 c4
        go_wp2_with fail
        obtain ⟨W6, hW6⟩ : ∃ W6, W6 = w5.setCell ⟨wr.heap.size, 4, none⟩ (.slice (some ⟨g5, 0, none⟩) (X.bn + 1) q5) := ⟨_, rfl⟩
        rw [← hW6] at BB6 E6 C6 X6
        simp only [← hW6]
        clear hW6 y0 y1 y2 y3 y4 fy X5 C5 BB5 O5 B5 B1 X1 HE0
        have hN1 : ∀ v, Below w.heap.size w v → _ := fun v (hv : Below w.heap.size w v) => NName_c X (X.bs j).lc zn t p v (HE.out.on hv) hs
        have HN2 := hideH (fun v (hv : Below W6.heap.size W6 v) => NName_c (heb X j (some ⟨g5, 0, none⟩) q5) heirB zn t p v (E6.out.on hv) hs)
        rw [(HNm.out (some ⟨g5, 0, none⟩) q5).1, (HNm.out (some ⟨g5, 0, none⟩) q5).2] at HN2
        generalize nmR X (X.bs j).lc zn t p = R at *
        generalize nmE X (X.bs j).lc zn t p = E at *
        obtain ⟨c0, c1, c2, c3, c4⟩ := cells5n C6.out
        rcases (HE.out.on BB6.out).bat.rows with h0 | ⟨bb, off, hsa, hcs⟩
        · omega
        have d0 := (hcs j hjl).1
        rw [hsa] at c4
        simp only [Wd.v, hsa] at hN1
        have HN1 := hideH hN1
        clear hcs hsa hN1 HNm
        have hji : (j : Int) < (X.bn : Int) := by omega
        go_region_held3 (fun v => v.cell? ⟨w.heap.size, 0, none⟩ = some (.slice X.D.sa X.D.ns X.D.sc) ∧ v.cell? ⟨w.heap.size, 1, none⟩ = some (.slice X.D.za X.D.nz X.D.zc) ∧ v.cell? ⟨w.heap.size, 2, none⟩ = some (.slice X.D.la X.D.nl X.D.lc) ∧ v.cell? ⟨w.heap.size, 3, none⟩ = some (.slice X.ua X.un X.uc) ∧ v.cell? ⟨w.heap.size, 4, none⟩ = some (.slice (some ⟨bb, off, none⟩) X.bn X.bc) ∧ v.cell? ⟨bb, off + j * 3, none⟩ = some (.string (X.bs j).lc))
          (first | (exact ⟨c0, c1, c2, c3, c4, d0⟩) | (exact ⟨cell_on (w := W6.drew) c0 hw7, cell_on (w := W6.drew) c1 hw7, cell_on (w := W6.drew) c2 hw7, cell_on (w := W6.drew) c3 hw7, cell_on (w := W6.drew) c4 hw7, cell_on (w := W6.drew) d0 hw7⟩))
          ((go_at_call 10; refine (HN1.out _ BB6.out.drew).mono ?_; rintro e w7 ⟨rfl, hw7⟩))
        all_goals
          have H7 := hideH (show Below W6.heap.size W6 w7 from bthen (a := W6.drew) (Below.refl _ W6).drew hw7)
          clear c0 c1 c2 c3 c4 d0 hw7 HN1
          obtain ⟨y0, y1, y2, y3, y4⟩ := cells5n (heap_on X6.out H7.out)
          go_wp2_with fail
          refine (HN2.out _ H7.out).mono ?_
          rintro e w8 ⟨rfl, hw⟩
          have H8 := hideH (bthen (bthen BB6.out H7.out) hw)
          clear hw y0 y1 y2 y3 y4
          go_wp2_with fail
          refine (HG.out _ H8.out).mono ?_
          rintro e w9 ⟨rfl, hw⟩
          go_wp2_with fail
          go_ret
          exact ⟨ret_bool (by simp), bthen H8.out hw⟩
end Go.Proofs.YtmpiijipebngcaaGreatDoor
