/- The contract of refuseFormats: a loop over zones, in it a loop over eras.Spans whose rounds may panic. -/
import Derived.Test.YtdffopkljomipaaGreatDoorDataC
import Derived.Test.YtdffopkljomipaaGreatDoorSpansB
namespace Go.Proofs.YtdffopkljomipaaGreatDoor
open Go Go.RowKit Go.Shelf
set_option linter.unusedVariables false
attribute [local go_sem] Oper.semAt_some

/-- all formats are formats -/
abbrev fmts (D : Dt) : Prop := ∀ j, j < D.nz → ∀ i, i < (D.zs j).n → fmtB ((D.zs j).es i).fm = true
theorem left_p {p : Prop} [Decidable p] (h : ¬ p) {e : Int} (he : e ≠ 0) : left (if p then 0 else e) = .panicked [{ v := errV e, recovered := false }] := by rw [if_neg h, left_no he]
theorem left_q {p : Prop} [Decidable p] (h : p) (e : Int) : left (if p then 0 else e) = .returned (.tuple #[]) := by rw [if_pos h]; rfl
theorem Mx.mono {w w' : World} {B : Nat} (h : Mx w) (hB : 0 < B) (hb : Below B w w') : Mx w' := by
  obtain ⟨m, hm⟩ := h
  exact ⟨m, (hb.cell (p := ⟨0, 0, none⟩) hB).trans hm⟩

/-- between two zones -/
def FI (D : Dt) (w : World) (a : Act) (wr : World) : Prop := ∃ (j : Nat) (ds : List Deferred) (u3 u5 u9 u10 u11 u12 u13 u14 u15 u16 u17 u18 u19 u20 u21 u22 : Value), j ≤ D.nz ∧
    a = { tmps := #[.slice D.za D.nz D.zc, undef, undef, u3, undef, u5, .slice D.za D.nz D.zc, .int .i64 D.nz, .int .i64 j, u9, u10, u11, u12, u13, u14, u15, u16, u17, u18, u19, u20, u21, u22], defers := ds } ∧
    Hid (Below w.heap.size w wr) ∧ Hid (Marks w.heap.size wr.heap.size ds wr) ∧ Hid (∀ i, i < j → ∀ k, k < (D.zs i).n → fmtB ((D.zs i).es k).fm = true)
def FM (D : Dt) (a : Act) (_ : World) : Nat := D.nz - (intOf (a.tmps.getD 8 undef)).toNat

set_option maxRecDepth 100000 in
set_option maxHeartbeats 4000000 in
theorem refuseFormats_c (D : Dt) (w : World) (hD : DAt w D) (hF : D.fits) (hM : Mx w) : Calls Tryz.prog 65 #[.slice D.za D.nz D.zc] w fun e w' => e = left (if fmts D then 0 else 1) ∧ Below w.heap.size w w' := by
  have n2 := hF.nz
  unfold maxLen at n2
  generalize hV : left (if fmts D then 0 else 1) = V
  have HV := hideH hV
  have HD := hideH hD
  have HF := hideH hF
  have HM := hideH hM
  clear hV hD hF hM
  refine calls_of_wpG Tryz.func65 rfl ?_
  simp only [Tryz.ntmps65, List.size_toArray, List.length_cons, List.length_nil, Nat.reduceAdd, Nat.reduceSub, Array.replicate_succ, Array.replicate_zero, List.push_toArray, List.append_toArray, List.nil_append, List.cons_append]
  refine wpG_seq (wpG_plain ?_)
  go_wp2
  refine wpG_block (wpG_loop (FI D w) (FM D) ?_ ?_)
  · exact ⟨0, [], _, _, _, _, _, _, _, _, _, _, _, _, _, _, _, _, Nat.zero_le _, rfl, Below.refl _ _, trivial, fun i hi => by omega⟩
  · rintro a wr ⟨j, ds, u3, u5, u9, u10, u11, u12, u13, u14, u15, u16, u17, u18, u19, u20, u21, u22, hj, rfl, HW, HK, HA⟩
    refine wpG_seq (wpG_plain ?_)
    by_cases hlt : j < D.nz
    · go_wp2
      refine wpG_seq (wpG_plain ?_)
      go_wp2
      refine wpG_seq (wpG_block (wpG_seq (wpG_plain ?_)))
      rcases (HD.out.on HW.out).zones with h0 | ⟨b, off, hsa, hcs⟩
      · omega
      obtain ⟨c0, c1⟩ := hcs j hlt
      clear hcs
      go_wp2
      clear c0 c1
      refine wpG_seq (wpG_plain ?_)
      go_wp2_with (go_at_call 16; refine (Spans_c _ _ _ _).mono ?_; rintro e w1 ⟨rfl, rfl⟩)
      refine wpG_block ?_
      have her := hideH ((HD.out.on HW.out).eras j hlt)
      have hne := HF.out.zn j hlt
      have hfm := hideH (HF.out.fm j hlt)
      have hwr0 : Hid (Below wr.heap.size wr ((wr.alloc (.cells #[.string (D.zs j).nm, .slice (D.zs j).a (D.zs j).n (D.zs j).c] 48)).alloc (.cells #[.slice (D.zs j).a (D.zs j).n (D.zs j).c] 46))) := ((Below.refl _ wr).alloc (Nat.le_refl _) _).alloc (by simp) _
      refine spans_p Tryz.func65 9 (wr.heap.size + 1) (D.zs j).n (D.zs j).c (D.zs j).a (D.zs j).es rfl rfl hne
        (fun k W => Below wr.heap.size wr W ∧ W.cell? ⟨wr.heap.size + 1, 0, none⟩ = some (.slice (D.zs j).a (D.zs j).n (D.zs j).c) ∧ ∀ i, i < k → fmtB ((D.zs j).es i).fm = true)
        (fun _ _ => False)
        (fun ch W => ch = [{ v := errV 1, recovered := false }] ∧ Below wr.heap.size wr W ∧ ∃ i, i < (D.zs j).n ∧ fmtB ((D.zs j).es i).fm = false)
        ?hI (fun _ _ _ h _ => h) ?hrd ?h0
        (fun k hb => { tmps := #[.slice (some ⟨b, off, none⟩) D.nz D.zc, undef, undef, .pointer (some ⟨wr.heap.size, 0, none⟩), undef, .pointer (some ⟨hb, 0, none⟩), .slice (some ⟨b, off, none⟩) D.nz D.zc, .int .i64 D.nz, .int .i64 j, .bool true, .pointer (some ⟨b, off + j * 2, none⟩), .agg #[.string (D.zs j).nm, (D.zs j).sl],
          .pointer (some ⟨wr.heap.size, 1, none⟩), .slice (D.zs j).a (D.zs j).n (D.zs j).c, .func (.func 31) #[] #[.pointer (some ⟨wr.heap.size + 1, 0, none⟩)], .int .i64 (frm (D.zs j).es k), ((D.zs j).es k).v, u17, u18, u19, u20, u21, u22], defers := [] })
        ?assign ?body ?done ?stop ?pan
      case hI =>
        rintro k W W' ⟨h1, h2, h3⟩ hb
        exact ⟨h1.trans (hb.mono (by simp; omega)), (hb.cell (p := ⟨wr.heap.size + 1, 0, none⟩) (by simp)).trans h2, h3⟩
      case hrd =>
        rintro k W ⟨h1, h2, h3⟩
        exact ⟨h2, her.out.on h1⟩
      case h0 => exact ⟨hwr0.out, by simp, fun i hi => by omega⟩
      case assign =>
        intro l k W K hk hK
        gi_wp2
        exact hK
      case body =>
        rintro l k hb W hk ⟨h1, h2, h3⟩ hb1 hb2 ⟨e0, e1, e2, e3, e4⟩
        have hM2 := hideH (HM.out.on (bthen HW.out h1))
        have hsz := hfm.out k hk
        have H1 := hideH h1
        have H2 := hideH h2
        have H3 := hideH h3
        clear h1 h2 h3
        cases hq : fmtB ((D.zs j).es k).fm
        · gi_wp2_with (first
            | (refine ⟨trivial, ?_⟩; gi_at_call 93; refine (CallsIn.inRound l (callsIn_wide.2 (disFormat_c _ _ hsz hM2.out))).mono ?_; rintro e W2 ⟨rfl, hw2⟩)
            | (refine ⟨trivial, ?_⟩; gi_at_call 51; refine (CallsIn.inRound l (callsIn_wide.2 (refuse_t (by first | rfl | simp [hq]) _ _))).mono ?_; rintro e W3 ⟨rfl, rfl⟩))
          exact ⟨rfl, Kept.of_below hw2, rfl, bthen H1.out hw2, k, hk, hq⟩
        · gi_wp2_with (first
            | (refine ⟨trivial, ?_⟩; gi_at_call 93; refine (CallsIn.inRound l (callsIn_wide.2 (disFormat_c _ _ hsz hM2.out))).mono ?_; rintro e W2 ⟨rfl, hw2⟩)
            | (refine ⟨trivial, ?_⟩; gi_at_call 51; refine (CallsIn.inRound l (callsIn_wide.2 (refuse_f (by first | rfl | simp [hq]) _ _))).mono ?_; rintro e W3 ⟨rfl, rfl⟩))
          refine ⟨Kept.of_below hw2, bthen H1.out hw2, cell_on H2.out hw2, fun i hi => ?_⟩
          rcases Nat.lt_or_ge i k with h | h
          · exact H3.out i h
          · obtain rfl : i = k := by omega
            exact hq
      case done =>
        rintro Dk W hDk ⟨h1, h2, h3⟩ hk
        have hlW := (Array.getElem?_eq_some_iff.1 hk).1
        simp at hDk
        have hms := hideH (show Marks w.heap.size W.heap.size (mark Dk :: ds) W from ⟨Dk, rfl, by have := HW.out.size; omega, hlW, hk, (HK.out.on h1).up (by omega)⟩)
        have H1 := hideH h1
        have H3 := hideH h3
        clear h1 h2 h3 hk hwr0
        show wpG _ _ _ _ _ _
        refine wpG_plain ?_
        go_wp2
        refine ⟨⟨j + 1, mark Dk :: ds, _, _, _, _, _, _, _, _, _, _, _, _, _, _, _, _, by omega, by rw [hsa]; rfl, bthen HW.out H1.out, hms, ?_⟩, ?_⟩
        · intro i hi k hk
          rcases Nat.lt_or_ge i j with h | h
          · exact HA.out i h k hk
          · obtain rfl : i = j := by omega
            exact H3.out k hk
        · simp [FM, intOf]; omega
      case stop => rintro D' c W _ h _; exact h.elim
      case pan =>
        rintro Dk ch W hDk ⟨rfl, h1, i, hi, hx⟩ hk
        have hlW := (Array.getElem?_eq_some_iff.1 hk).1
        simp at hDk
        have hms : Marks w.heap.size W.heap.size (mark Dk :: ds) W := ⟨Dk, rfl, by have := HW.out.size; omega, hlW, hk, (HK.out.on h1).up (by omega)⟩
        show LeavesInM _ _ _ _ _ _ _ _ _
        refine hms.leaves (by simp) fun W' hw => ?_
        refine ⟨?_, (bthen HW.out h1).trans hw⟩
        rw [← HV.out, left_p (fun h => by have := h j hlt i hi; rw [hx] at this; cases this) (by decide)]
    · go_wp2
      refine wpG_seq (wpG_plain ?_)
      go_wp2
      refine HK.out.leaves (by simp) fun W' hw => ?_
      refine ⟨_, results_none rfl _ _ _, ?_, HW.out.trans hw⟩
      rw [← HV.out]
      exact (left_q (p := fmts D) (fun j' h => HA.out j' (by omega)) 1).symm
end Go.Proofs.YtdffopkljomipaaGreatDoor
