/- The contract of refuseFormats: a loop over zones, in it a loop over eras.Spans whose rounds may panic. -/
import Derived.Test.YtbpdbggojgijiaaGreatDoorDataAAll
import Derived.Maps.AppendAt
import Derived.Maps.OwnSet
import Derived.Maps.OwnOps
import Derived.Maps.Views
import Derived.Laws.AppendOwnNone
import Derived.Lib.AppendZerosOnto
namespace Go.Proofs.YtbpdbggojgijiaaGreatDoor
open Go Go.RowKit Go.Shelf
set_option linter.unusedVariables false
attribute [local go_sem] Oper.semAt_some

/-- all formats are formats -/
abbrev fmts (D : Dt) : Prop := ∀ j, j < D.nz → ∀ i, i < (D.zs j).n → fmtB ((D.zs j).es i).fm = true
theorem left_p {p : Prop} [Decidable p] (h : ¬ p) {e : Int} (he : e ≠ 0) : left (if p then 0 else e) = .panicked [{ v := errV e, recovered := false }] := by rw [if_neg h, left_no he]
theorem left_q {p : Prop} [Decidable p] (h : p) (e : Int) : left (if p then 0 else e) = .returned (.tuple #[]) := by rw [if_pos h]; rfl
theorem Mx.mono {w w' : World} {B : Nat} (h : Mx w) (hB : 1 < B) (hb : Below B w w') : Mx w' := by
  obtain ⟨m, hm⟩ := h
  exact ⟨m, (hb.cell (p := ⟨1, 0, none⟩) hB).trans hm⟩

/-- between two zones -/
def FI (D : Dt) (w : World) (a : Act) (wr : World) : Prop := ∃ (j : Nat) (ds : List Deferred) (u3 u5 u9 u10 u11 u12 u13 u14 u15 u16 u17 u18 u19 u20 u21 u22 : Value), j ≤ D.nz ∧
    a = { tmps := #[.slice D.za D.nz D.zc, undef, undef, u3, undef, u5, .slice D.za D.nz D.zc, .int .i64 D.nz, .int .i64 j, u9, u10, u11, u12, u13, u14, u15, u16, u17, u18, u19, u20, u21, u22], defers := ds } ∧
    Hid (Below w.heap.size w wr) ∧ Hid (Marks w.heap.size wr.heap.size ds wr) ∧ Hid (∀ i, i < j → ∀ k, k < (D.zs i).n → fmtB ((D.zs i).es k).fm = true)
def FM (D : Dt) (a : Act) (_ : World) : Nat := D.nz - (intOf (a.tmps.getD 8 undef)).toNat

set_option maxRecDepth 100000 in
set_option maxHeartbeats 4000000 in
theorem refuseFormats_c (D : Dt) (w : World) (hD : DAt w D) (hF : D.fits) (hM : Mx w) : Calls Tryz.prog 63 #[.slice D.za D.nz D.zc] w fun e w' => e = left (if fmts D then 0 else 1) ∧ Below w.heap.size w w' := by
  have n2 := hF.nz
  unfold maxLen at n2
  generalize hV : left (if fmts D then 0 else 1) = V
  have HV := hideH hV
  have HD := hideH hD
  have HF := hideH hF
  have HM := hideH hM
  clear hV hD hF hM
  refine calls_of_wpG Tryz.func63 rfl ?_
  simp only [Tryz.ntmps63, List.size_toArray, List.length_cons, List.length_nil, Nat.reduceAdd, Nat.reduceSub, Array.replicate_succ, Array.replicate_zero, List.push_toArray, List.append_toArray, List.nil_append, List.cons_append]
  refine wpG_seq (wpG_plain ?_)
  go_wp2
  refine wpG_block (wpG_loop (FI D w) (FM D) ?_ ?_)
  · exact ⟨0, [], _, _, _, _, _, _, _, _, _, _, _, _, _, _, _, _, Nat.zero_le _, rfl, Below.refl _ _, trivial, fun i hi => by omega⟩
  · rintro a wr ⟨j, ds, u3, u5, u9, u10, u11, u12, u13, u14, u15, u16, u17, u18, u19, u20, u21, u22, hj, rfl, HW, HK, HA⟩
    refine wpG_seq (wpG_plain ?_)
    by_cases hlt : j < D.nz
    · go_wp2
      refine wpG_seq (wpG_plain ?_)
      go_wp2
      refine wpG_seq (wpG_block (wpG_seq (wpG_plain ?_)))
      rcases (HD.out.on HW.out).zones with h0 | ⟨b, off, hsa, hcs⟩
      · omega
      obtain ⟨c0, c1⟩ := hcs j hlt
      clear hcs
      go_wp2
      clear c0 c1
      refine wpG_seq (wpG_plain ?_)
      go_wp2_with (go_at_call 79; refine (Spans_c _ _ _ _).mono ?_; rintro e w1 ⟨rfl, rfl⟩)
      refine wpG_block ?_
      have her := hideH ((HD.out.on HW.out).eras j hlt)
      have hne := HF.out.zn j hlt
      have hfm := hideH (HF.out.fm j hlt)
      have hwr0 : Hid (Below wr.heap.size wr ((wr.alloc (.cells #[.string (D.zs j).nm, .slice (D.zs j).a (D.zs j).n (D.zs j).c] 51)).alloc (.cells #[.slice (D.zs j).a (D.zs j).n (D.zs j).c] 49))) := ((Below.refl _ wr).alloc (Nat.le_refl _) _).alloc (by simp) _
      refine spans_p Tryz.func63 9 (wr.heap.size + 1) (D.zs j).n (D.zs j).c (D.zs j).a (D.zs j).es rfl rfl hne
        (fun k W => Below wr.heap.size wr W ∧ W.cell? ⟨wr.heap.size + 1, 0, none⟩ = some (.slice (D.zs j).a (D.zs j).n (D.zs j).c) ∧ ∀ i, i < k → fmtB ((D.zs j).es i).fm = true)
        (fun _ _ => False)
        (fun ch W => ch = [{ v := errV 1, recovered := false }] ∧ Below wr.heap.size wr W ∧ ∃ i, i < (D.zs j).n ∧ fmtB ((D.zs j).es i).fm = false)
        ?hI (fun _ _ _ h _ => h) ?hrd ?h0
        (fun k hb => { tmps := #[.slice (some ⟨b, off, none⟩) D.nz D.zc, undef, undef, .pointer (some ⟨wr.heap.size, 0, none⟩), undef, .pointer (some ⟨hb, 0, none⟩), .slice (some ⟨b, off, none⟩) D.nz D.zc, .int .i64 D.nz, .int .i64 j, .bool true, .pointer (some ⟨b, off + j * 2, none⟩), .agg #[.string (D.zs j).nm, (D.zs j).sl],
          .pointer (some ⟨wr.heap.size, 1, none⟩), .slice (D.zs j).a (D.zs j).n (D.zs j).c, .func (.func 96) #[] #[.pointer (some ⟨wr.heap.size + 1, 0, none⟩)], .int .i64 (frm (D.zs j).es k), ((D.zs j).es k).v, u17, u18, u19, u20, u21, u22], defers := [] })
        ?assign ?body ?done ?stop ?pan
      case hI =>
        rintro k W W' ⟨h1, h2, h3⟩ hb
        exact ⟨h1.trans (hb.mono (by simp; omega)), (hb.cell (p := ⟨wr.heap.size + 1, 0, none⟩) (by simp)).trans h2, h3⟩
      case hrd =>
        rintro k W ⟨h1, h2, h3⟩
        exact ⟨h2, her.out.on h1⟩
      case h0 => exact ⟨hwr0.out, by simp, fun i hi => by omega⟩
      case assign =>
        intro l k W K hk hK
        gi_wp2
        exact hK
      case body =>
        rintro l k hb W hk ⟨h1, h2, h3⟩ hb1 hb2 ⟨e0, e1, e2, e3, e4⟩
        have hM2 := hideH (HM.out.on (bthen HW.out h1))
        have hsz := hfm.out k hk
        have H1 := hideH h1
        have H2 := hideH h2
        have H3 := hideH h3
        clear h1 h2 h3
        cases hq : fmtB ((D.zs j).es k).fm
        · gi_wp2_with (first
            | (refine ⟨trivial, ?_⟩; gi_at_call 81; refine (CallsIn.inRound l (callsIn_wide.2 (disFormat_c _ _ hsz hM2.out))).mono ?_; rintro e W2 ⟨rfl, hw2⟩)
            | (refine ⟨trivial, ?_⟩; gi_at_call 58; refine (CallsIn.inRound l (callsIn_wide.2 (refuse_t (by first | rfl | simp [hq]) _ _))).mono ?_; rintro e W3 ⟨rfl, rfl⟩))
          exact ⟨rfl, Kept.of_below hw2, rfl, bthen H1.out hw2, k, hk, hq⟩
        · gi_wp2_with (first
            | (refine ⟨trivial, ?_⟩; gi_at_call 81; refine (CallsIn.inRound l (callsIn_wide.2 (disFormat_c _ _ hsz hM2.out))).mono ?_; rintro e W2 ⟨rfl, hw2⟩)
            | (refine ⟨trivial, ?_⟩; gi_at_call 58; refine (CallsIn.inRound l (callsIn_wide.2 (refuse_f (by first | rfl | simp [hq]) _ _))).mono ?_; rintro e W3 ⟨rfl, rfl⟩))
          refine ⟨Kept.of_below hw2, bthen H1.out hw2, cell_on H2.out hw2, fun i hi => ?_⟩
          rcases Nat.lt_or_ge i k with h | h
          · exact H3.out i h
          · obtain rfl : i = k := by omega
            exact hq
      case done =>
        rintro Dk W hDk ⟨h1, h2, h3⟩ hk
        have hlW := (Array.getElem?_eq_some_iff.1 hk).1
        simp at hDk
        have hms := hideH (show Marks w.heap.size W.heap.size (mark Dk :: ds) W from ⟨Dk, rfl, by have := HW.out.size; omega, hlW, hk, (HK.out.on h1).up (by omega)⟩)
        have H1 := hideH h1
        have H3 := hideH h3
        clear h1 h2 h3 hk hwr0
        show wpG _ _ _ _ _ _
        refine wpG_plain ?_
        go_wp2
        refine ⟨⟨j + 1, mark Dk :: ds, _, _, _, _, _, _, _, _, _, _, _, _, _, _, _, _, by omega, by rw [hsa]; rfl, bthen HW.out H1.out, hms, ?_⟩, ?_⟩
        · intro i hi k hk
          rcases Nat.lt_or_ge i j with h | h
          · exact HA.out i h k hk
          · obtain rfl : i = j := by omega
            exact H3.out k hk
        · simp [FM, intOf]; omega
      case stop => rintro D' c W _ h _; exact h.elim
      case pan =>
        rintro Dk ch W hDk ⟨rfl, h1, i, hi, hx⟩ hk
        have hlW := (Array.getElem?_eq_some_iff.1 hk).1
        simp at hDk
        have hms : Marks w.heap.size W.heap.size (mark Dk :: ds) W := ⟨Dk, rfl, by have := HW.out.size; omega, hlW, hk, (HK.out.on h1).up (by omega)⟩
        show LeavesInM _ _ _ _ _ _ _ _ _
        refine hms.leaves (by simp) fun W' hw => ?_
        refine ⟨?_, (bthen HW.out h1).trans hw⟩
        rw [← HV.out, left_p (fun h => by have := h j hlt i hi; rw [hx] at this; cases this) (by decide)]
    · go_wp2
      refine wpG_seq (wpG_plain ?_)
      go_wp2
      refine HK.out.leaves (by simp) fun W' hw => ?_
      refine ⟨_, results_none rfl _ _ _, ?_, HW.out.trans hw⟩
      rw [← HV.out]
      exact (left_q (p := fmts D) (fun j' h => HA.out j' (by omega)) 1).symm
end Go.Proofs.YtbpdbggojgijiaaGreatDoor

/- The contract of refuseEras: a loop over zones, in it a loop over eras.Spans whose rounds may panic and write a variable. -/
namespace Go.Proofs.YtbpdbggojgijiaaGreatDoor
open Go Go.RowKit Go.Shelf
set_option linter.unusedVariables false
attribute [local go_sem] Oper.semAt_some

/-- a zone's eras are right -/
abbrev zoneOK (D : Dt) (z : Zn) : Prop := (∀ i, i < z.n → ebnd (z.es i) D.ns = true ∧ frm z.es i < (z.es i).un) ∧ frm z.es z.n = 1893456000
abbrev ersOK (D : Dt) : Prop := ∀ j, j < D.nz → zoneOK D (D.zs j)
theorem ebnd_of {x : Er} {n : Int} (h : ebnd x n = true) : -50400 ≤ x.std ∧ x.std ≤ 50400 ∧ -1 ≤ x.set ∧ x.set < n ∧ 0 ≤ x.sv ∧ (0 ≤ x.set ∧ x.sv ≤ 0 ∨ x.set < 0 ∧ x.sv ≤ 7200) := by unfold ebnd at h; simpa using h

/-- between two zones -/
def EI (D : Dt) (w : World) (a : Act) (wr : World) : Prop := ∃ (j : Nat) (ds : List Deferred) (u3 u4 u5 u6 u11 u12 u13 u14 u15 u16 u17 u18 u19 u20 u21 u22 u23 u24 u25 u26 u27 u28 u29 u30 u31 u32 u33 u34 u35 u36 u37 : Value), j ≤ D.nz ∧
    a = { tmps := #[D.v, .pointer (some ⟨w.heap.size, 0, none⟩), undef, u3, u4, u5, u6, .pointer (some ⟨w.heap.size, 1, none⟩), .slice D.za D.nz D.zc, .int .i64 D.nz, .int .i64 j, u11, u12, u13, u14, u15, u16, u17, u18, u19, u20, u21, u22, u23, u24, u25, u26, u27, u28, u29, u30, u31, u32, u33, u34, u35, u36, u37], defers := ds } ∧
    Hid (Below w.heap.size w wr) ∧ Hid (wr.cell? ⟨w.heap.size, 0, none⟩ = some (.slice D.sa D.ns D.sc)) ∧ Hid (Marks w.heap.size wr.heap.size ds wr) ∧ Hid (∀ i, i < j → zoneOK D (D.zs i))
def EM (D : Dt) (a : Act) (_ : World) : Nat := D.nz - (intOf (a.tmps.getD 10 undef)).toNat

set_option maxRecDepth 100000 in
set_option maxHeartbeats 4000000 in
theorem refuseEras_c (D : Dt) (w : World) (hD : DAt w D) (hF : D.fits) : Calls Tryz.prog 62 #[D.v] w fun e w' => e = left (if ersOK D then 0 else 3) ∧ Below w.heap.size w w' := by
  have n2 := hF.nz
  have n1 := hF.ns
  unfold maxLen at n2 n1
  generalize hV : left (if ersOK D then 0 else 3) = V
  have HV := hideH hV
  have HD := hideH hD
  have HF := hideH hF
  clear hV hD hF
  refine calls_of_wpG Tryz.func62 rfl ?_
  simp only [Tryz.ntmps62, List.size_toArray, List.length_cons, List.length_nil, Nat.reduceAdd, Nat.reduceSub, Array.replicate_succ, Array.replicate_zero, List.push_toArray, List.append_toArray, List.nil_append, List.cons_append]
  refine wpG_seq (wpG_plain ?_)
  go_wp2
  refine wpG_seq (wpG_plain ?_)
  go_wp2
  have HB0 : Hid (Below w.heap.size w (w.alloc (.cells #[.slice D.sa D.ns D.sc, .slice D.za D.nz D.zc, .slice D.la D.nl D.lc] 26))) := (Below.refl _ _).alloc (Nat.le_refl _) _
  have HC0 : Hid ((w.alloc (.cells #[.slice D.sa D.ns D.sc, .slice D.za D.nz D.zc, .slice D.la D.nl D.lc] 26)).cell? ⟨w.heap.size, 0, none⟩ = some (.slice D.sa D.ns D.sc)) := by unfold Hid; simp
  refine wpG_block (wpG_loop (EI D w) (EM D) ?_ ?_)
  · exact ⟨0, [], _, _, _, _, _, _, _, _, _, _, _, _, _, _, _, _, _, _, _, _, _, _, _, _, _, _, _, _, _, _, _, Nat.zero_le _, rfl, HB0, HC0, trivial, fun i hi => by omega⟩
  · clear HB0 HC0
    rintro a wr ⟨j, ds, u3, u4, u5, u6, u11, u12, u13, u14, u15, u16, u17, u18, u19, u20, u21, u22, u23, u24, u25, u26, u27, u28, u29, u30, u31, u32, u33, u34, u35, u36, u37, hj, rfl, HW, HC, HK, HA⟩
    refine wpG_seq (wpG_plain ?_)
    by_cases hlt : j < D.nz
    · go_wp2
      refine wpG_seq (wpG_plain ?_)
      go_wp2
      refine wpG_seq (wpG_block (wpG_seq (wpG_plain ?_)))
      rcases (HD.out.on HW.out).zones with h0 | ⟨b, off, hsa, hcs⟩
      · omega
      obtain ⟨c0, c1⟩ := hcs j hlt
      clear hcs
      go_wp2
      clear c0 c1
      refine wpG_seq (wpG_plain ?_)
      go_wp2
      refine wpG_seq (wpG_seq (wpG_plain ?_))
      go_wp2_with (go_at_call 79; refine (Spans_c _ _ _ _).mono ?_; rintro e w1 ⟨rfl, rfl⟩)
      refine wpG_block ?_
      have her := hideH ((HD.out.on HW.out).eras j hlt)
      have hne := HF.out.zn j hlt
      have hwz : w.heap.size < wr.heap.size := cell_lt HC.out
      have hwr0 : Hid (Below wr.heap.size wr (((wr.alloc (.cells #[.string (D.zs j).nm, .slice (D.zs j).a (D.zs j).n (D.zs j).c] 51)).alloc (.cells #[.int .i64 0] 3)).alloc (.cells #[.slice (D.zs j).a (D.zs j).n (D.zs j).c] 49))) := (((Below.refl _ wr).alloc (Nat.le_refl _) _).alloc (by simp) _).alloc (by simp; omega) _
      have hbx0 : Hid (Boxed (((wr.alloc (.cells #[.string (D.zs j).nm, .slice (D.zs j).a (D.zs j).n (D.zs j).c] 51)).alloc (.cells #[.int .i64 0] 3)).alloc (.cells #[.slice (D.zs j).a (D.zs j).n (D.zs j).c] 49)) (wr.heap.size + 1) 3 (.int .i64 0)) := by
        have h1 := Boxed.new (wr.alloc (.cells #[.string (D.zs j).nm, .slice (D.zs j).a (D.zs j).n (D.zs j).c] 51)) 3 (.int .i64 0)
        rw [World.size_alloc] at h1
        exact h1.alloc _
      refine spans_p Tryz.func62 9 (wr.heap.size + 2) (D.zs j).n (D.zs j).c (D.zs j).a (D.zs j).es rfl rfl hne
        (fun k W => Below wr.heap.size wr W ∧ W.cell? ⟨wr.heap.size + 2, 0, none⟩ = some (.slice (D.zs j).a (D.zs j).n (D.zs j).c) ∧ Boxed W (wr.heap.size + 1) 3 (.int .i64 (frm (D.zs j).es k)) ∧ ∀ i, i < k → ebnd ((D.zs j).es i) D.ns = true ∧ frm (D.zs j).es i < ((D.zs j).es i).un)
        (fun _ _ => False)
        (fun ch W => ch = [{ v := errV 3, recovered := false }] ∧ Below wr.heap.size wr W ∧ ∃ i, i < (D.zs j).n ∧ ¬ (ebnd ((D.zs j).es i) D.ns = true ∧ frm (D.zs j).es i < ((D.zs j).es i).un))
        ?hI (fun _ _ _ h _ => h) ?hrd ?h0
        (fun k hb => { tmps := #[D.v, .pointer (some ⟨w.heap.size, 0, none⟩), undef, .pointer (some ⟨wr.heap.size, 0, none⟩), .pointer (some ⟨wr.heap.size + 1, 0, none⟩), .int .i64 (frm (D.zs j).es k), .pointer (some ⟨hb, 0, none⟩), .pointer (some ⟨w.heap.size, 1, none⟩), .slice (some ⟨b, off, none⟩) D.nz D.zc, .int .i64 D.nz, .int .i64 j, .bool true, .pointer (some ⟨b, off + j * 2, none⟩), .agg #[.string (D.zs j).nm, (D.zs j).sl],
          .pointer (some ⟨wr.heap.size, 1, none⟩), .slice (D.zs j).a (D.zs j).n (D.zs j).c, .func (.func 96) #[] #[.pointer (some ⟨wr.heap.size + 2, 0, none⟩)], .int .i64 (frm (D.zs j).es k), ((D.zs j).es k).v, u19, u20, u21, u22, u23, u24, u25, u26, u27, u28, u29, u30, u31, u32, u33, u34, u35, u36, u37], defers := [] })
        ?assign ?body ?done ?stop ?pan
      case hI =>
        rintro k W W' ⟨h1, h2, h3, h4⟩ hb
        have hs : wr.heap.size + 2 < (((wr.alloc (.cells #[.string (D.zs j).nm, .slice (D.zs j).a (D.zs j).n (D.zs j).c] 51)).alloc (.cells #[.int .i64 0] 3)).alloc (.cells #[.slice (D.zs j).a (D.zs j).n (D.zs j).c] 49)).heap.size := by simp
        exact ⟨h1.trans (hb.mono (by omega)), (hb.cell (p := ⟨wr.heap.size + 2, 0, none⟩) hs).trans h2, (hb.block _ (by omega)).trans h3, h4⟩
      case hrd =>
        rintro k W ⟨h1, h2, h3⟩
        exact ⟨h2, her.out.on h1⟩
      case h0 =>
        have hc := (Boxed.new ((wr.alloc (.cells #[.string (D.zs j).nm, .slice (D.zs j).a (D.zs j).n (D.zs j).c] 51)).alloc (.cells #[.int .i64 0] 3)) 49 (.slice (D.zs j).a (D.zs j).n (D.zs j).c)).cell
        simp only [World.size_alloc] at hc
        exact ⟨hwr0.out, hc, hbx0.out, fun i hi => by omega⟩
      case assign =>
        intro l k W K hk hK
        gi_wp2
        exact hK
      case body =>
        rintro l k hb W hk ⟨h1, h2, h3, h4⟩ hb1 hb2 ⟨e0, e1, e2, e3, e4⟩
        simp at hb1
        have hds := cell_on HC.out h1
        have H1 := hideH h1
        have H2 := hideH h2
        have H3 := hideH h3
        have H4 := hideH h4
        clear h1 h2 h3 h4 hwr0 hbx0
        have hbx := hideH (show EAt W hb 0 ((D.zs j).es k) from ⟨e0, e1, e2, e3, e4⟩)
        have hqq : (ebnd ((D.zs j).es k) D.ns = false) ∨ (ebnd ((D.zs j).es k) D.ns = true ∧ ((D.zs j).es k).un ≤ frm (D.zs j).es k) ∨ (ebnd ((D.zs j).es k) D.ns = true ∧ frm (D.zs j).es k < ((D.zs j).es k).un) := by
          cases ebnd ((D.zs j).es k) D.ns
          · exact .inl rfl
          · rcases Int.lt_or_le (frm (D.zs j).es k) ((D.zs j).es k).un with h | h
            · exact .inr (.inr ⟨rfl, h⟩)
            · exact .inr (.inl ⟨rfl, h⟩)
        rcases hqq with hq | ⟨hq, hq'⟩ | ⟨hq, hq'⟩
        · gi_wp2_with (first
            | (refine ⟨trivial, ?_⟩; gi_at_call 80; refine (CallsIn.inRound l (callsIn_wide.2 (dinBounds_c _ _ _))).mono ?_; rintro e W2 ⟨rfl, hw2⟩)
            | (refine ⟨trivial, ?_⟩; gi_at_call 58; refine (CallsIn.inRound l (callsIn_wide.2 (refuse_t (by first | rfl | simp [hq]) _ _))).mono ?_; rintro e W3 ⟨rfl, rfl⟩))
          exact ⟨rfl, Kept.of_below hw2, rfl, bthen H1.out hw2, k, hk, fun h => by rw [hq] at h; cases h.1⟩
        · gi_wp2_with (refine ⟨trivial, ?_⟩; gi_at_call 80; refine (CallsIn.inRound l (callsIn_wide.2 (dinBounds_c _ _ _))).mono ?_; rintro e W2 ⟨rfl, hw2⟩; have HW2 := hideH hw2; have hu := cell_on hbx.out.2.2.2.2 hw2; simp only [Nat.zero_add] at hu; clear hw2)
          refine ⟨trivial, ?_⟩
          refine (CallsIn.inRound l (callsIn_wide.2 (refuse_t rfl _ _))).mono ?_
          rintro e W3 ⟨rfl, rfl⟩
          exact ⟨rfl, Kept.of_below HW2.out, rfl, bthen H1.out HW2.out, k, hk, fun h => by have := h.2; omega⟩
        · gi_wp2_with (refine ⟨trivial, ?_⟩; gi_at_call 80; refine (CallsIn.inRound l (callsIn_wide.2 (dinBounds_c _ _ _))).mono ?_; rintro e W2 ⟨rfl, hw2⟩; have HW2 := hideH hw2; have hu := cell_on hbx.out.2.2.2.2 hw2; simp only [Nat.zero_add] at hu; clear hw2)
          refine ⟨trivial, ?_⟩
          refine (CallsIn.inRound l (callsIn_wide.2 (refuse_f (b := decide (((D.zs j).es k).un ≤ frm (D.zs j).es k)) (by simp; omega) _ _))).mono ?_
          rintro e W2 ⟨rfl, rfl⟩
          have hbe : Hid (Boxed W2 (wr.heap.size + 1) 3 (.int .i64 (frm (D.zs j).es k))) := (HW2.out.block _ H3.out.lt).trans H3.out
          have hce := hbe.out.cell
          have hfe := hbe.out.frozen
          gi_wp2
          refine ⟨(Kept.of_below HW2.out).trans (Kept.set _ (by simp) _), (bthen H1.out HW2.out).setCell (p := ⟨wr.heap.size + 1, 0, none⟩) (by simp) _, ?_, ?_, fun i hi => ?_⟩
          · rw [World.cell?_of_block (Below.heap_setCell _ _ _ _ (by simp))]
            exact cell_on H2.out HW2.out
          · exact hbe.out.set _
          · rcases Nat.lt_or_ge i k with h | h
            · exact H4.out i h
            · obtain rfl : i = k := by omega
              exact ⟨hq, hq'⟩
      case done =>
        rintro Dk W hDk ⟨h1, h2, h3, h4⟩ hk
        have hlW := (Array.getElem?_eq_some_iff.1 hk).1
        simp at hDk
        have hms := hideH (show Marks w.heap.size W.heap.size (mark Dk :: ds) W from ⟨Dk, rfl, by have := HW.out.size; omega, hlW, hk, (HK.out.on h1).up (by omega)⟩)
        have hce := h3.cell
        have H1 := hideH h1
        have H4 := hideH h4
        clear h1 h2 h3 h4 hk hwr0 hbx0
        show wpG _ _ _ _ _ _
        refine wpG_plain ?_
        rcases beq_cases (frm (D.zs j).es (D.zs j).n) 1893456000 with ⟨q1, q2⟩ | ⟨q1, q2⟩
        · go_wp2_with (go_at_call 58; refine (refuse_f (by first | rfl | simp [q2]) _ _).mono ?_; rintro e w1 ⟨rfl, rfl⟩)
          show wpG _ _ _ _ _ _
          refine wpG_plain ?_
          go_wp2
          refine ⟨⟨j + 1, mark Dk :: ds, _, _, _, _, _, _, _, _, _, _, _, _, _, _, _, _, _, _, _, _, _, _, _, _, _, _, _, _, _, _, _, by omega, by rw [hsa]; rfl, bthen HW.out H1.out, cell_on HC.out H1.out, hms, ?_⟩, ?_⟩
          · intro i hi
            rcases Nat.lt_or_ge i j with h | h
            · exact HA.out i h
            · obtain rfl : i = j := by omega
              exact ⟨H4.out, q2⟩
          · simp [EM, intOf]; omega
        · go_wp2_with (go_at_call 58; refine (refuse_t (by first | rfl | simp [q2]) _ _).mono ?_; rintro e w1 ⟨rfl, rfl⟩)
          show LeavesInM _ _ _ _ _ _ _ _ _
          refine hms.out.leaves (by simp) fun W' hw => ?_
          refine ⟨?_, (bthen HW.out H1.out).trans hw⟩
          rw [← HV.out, left_p (fun h => q2 (h j hlt).2) (by decide)]
      case stop => rintro D' c W _ h _; exact h.elim
      case pan =>
        rintro Dk ch W hDk ⟨rfl, h1, i, hi, hx⟩ hk
        have hlW := (Array.getElem?_eq_some_iff.1 hk).1
        simp at hDk
        have hms : Marks w.heap.size W.heap.size (mark Dk :: ds) W := ⟨Dk, rfl, by have := HW.out.size; omega, hlW, hk, (HK.out.on h1).up (by omega)⟩
        show LeavesInM _ _ _ _ _ _ _ _ _
        refine hms.leaves (by simp) fun W' hw => ?_
        refine ⟨?_, (bthen HW.out h1).trans hw⟩
        rw [← HV.out, left_p (fun h => hx ((h j hlt).1 i hi)) (by decide)]
    · go_wp2
      refine wpG_seq (wpG_plain ?_)
      go_wp2
      refine HK.out.leaves (by simp) fun W' hw => ?_
      refine ⟨_, results_none rfl _ _ _, ?_, HW.out.trans hw⟩
      rw [← HV.out]
      exact (left_q (p := ersOK D) (fun j' h => HA.out j' (by omega)) 3).symm
end Go.Proofs.YtbpdbggojgijiaaGreatDoor

/- Contracts of package data: refuseRules; names, and what tells them. -/
namespace Go.Proofs.YtbpdbggojgijiaaGreatDoor
open Go Go.RowKit
set_option linter.unusedVariables false

/-- n cells in a row -/
def P1 (w : World) (a : Option Addr) (n : Nat) (f : Nat → Value) : Prop := n = 0 ∨ ∃ b off, a = some ⟨b, off, none⟩ ∧ ∀ j, j < n → w.cell? ⟨b, off + j, none⟩ = some (f j)
theorem P1.on {w w' : World} {a : Option Addr} {n : Nat} {f : Nat → Value} (h : P1 w a n f) (hb : Below w.heap.size w w') : P1 w' a n f := by
  rcases h with h | ⟨b, off, h1, h2⟩
  · exact .inl h
  · exact .inr ⟨b, off, h1, fun j hj => cell_on (h2 j hj) hb⟩
theorem own_on {w w' : World} {base size n : Nat} {e : TypeId} {v : Value} {xs : List Value} (h : w.ownsRow base e size v n xs) (hb : Below w.heap.size w w') : w'.ownsRow base e size v n xs :=
  h.kept (row := none) ⟨hb.os, hb.tape, hb.output, hb.size, fun k hk _ => hb.block k hk⟩ (by cases v.ownBlock <;> simp)
/-- what the call owns, to read -/
theorem own_p1 {w : World} {base n : Nat} {e : TypeId} {v : Value} {f : Nat → Value} (h : w.ownsRow base e 1 v n ((List.range n).map f)) : ∃ a c, v = .slice a n c ∧ n ≤ c ∧ P1 w a n f := by
  rcases h.2 with ⟨rfl, rfl⟩ | ⟨g, cap, cur, rfl, hb, hg, hn, hm, hs, ht⟩
  · exact ⟨none, 0, rfl, Nat.le_refl _, .inl rfl⟩
  · refine ⟨some ⟨g, 0, none⟩, cap, rfl, hn, .inr ⟨g, 0, rfl, fun j hj => ?_⟩⟩
    have h2 := h.cellAt j (by omega)
    rw [Nat.zero_add, h2]
    simp [hj]

theorem info_str : (Tryz.prog.info? 9).map (fun i => (i.zero, i.size, i.bytes)) = some (some (.string ⟨#[]⟩), 1, 16) := by kernel_rfl

theorem check1_c (s : ByteArray) (v : Value) (w : World) : Calls Tryz.prog 51 #[.agg #[.string s, v]] w fun e w' => e = .returned (.string s) ∧ Below w.heap.size w w' := by
  have hb := hideH ((Below.refl _ w).alloc (Nat.le_refl _) (.cells #[.string s, v] 47))
  go_enter Tryz.func51, Tryz.ntmps51
  go_wp2
  go_ret
  exact ⟨rfl, hb.out⟩
theorem check2_c (s : ByteArray) (v : Value) (w : World) : Calls Tryz.prog 53 #[.agg #[.string s, v]] w fun e w' => e = .returned (.string s) ∧ Below w.heap.size w w' := by
  have hb := hideH ((Below.refl _ w).alloc (Nat.le_refl _) (.cells #[.string s, v] 51))
  go_enter Tryz.func53, Tryz.ntmps53
  go_wp2
  go_ret
  exact ⟨rfl, hb.out⟩
theorem check3_c (s t : ByteArray) (w : World) : Calls Tryz.prog 55 #[.agg #[.string s, .string t]] w fun e w' => e = .returned (.string s) ∧ Below w.heap.size w w' := by
  have hb := hideH ((Below.refl _ w).alloc (Nat.le_refl _) (.cells #[.string s, .string t] 54))
  go_enter Tryz.func55, Tryz.ntmps55
  go_wp2
  go_ret
  exact ⟨rfl, hb.out⟩
theorem check4_c (s t : ByteArray) (w : World) : Calls Tryz.prog 56 #[.agg #[.string s, .string t]] w fun e w' => e = .returned (.string t) ∧ Below w.heap.size w w' := by
  have hb := hideH ((Below.refl _ w).alloc (Nat.le_refl _) (.cells #[.string s, .string t] 54))
  go_enter Tryz.func56, Tryz.ntmps56
  go_wp2
  go_ret
  exact ⟨rfl, hb.out⟩

set_option maxHeartbeats 4000000 in
theorem namesS_c (a : Option Addr) (n c : Nat) (ss : Nat → St) (w : World) (hn : n ≤ 1000) (hP : P2 w a n (fun j => .string (ss j).nm) (fun j => (ss j).sl)) :
    Calls Tryz.prog 50 #[.slice a n c, .func (.func 51) #[] #[]] w fun e w' => ∃ v, e = .returned v ∧ w'.ownsRow w.heap.size 9 1 v n ((List.range n).map fun j => .string (ss j).nm) ∧ Below w.heap.size w w' := by
  have HP := hideH hP
  clear hP
  obtain ⟨i0, hi, hz0, hz1, hz2⟩ := info_parts info_str
  go_enter Tryz.func50, Tryz.ntmps50
  go_wp2_with fail
  go_loopw [5, 10] (fun x5 x10 wr => ∃ j : Nat, j ≤ n ∧ x10 = .int .i64 j ∧ Hid (wr.ownsRow w.heap.size 9 1 x5 j ((List.range j).map fun j => .string (ss j).nm)) ∧ Hid (Below w.heap.size w wr)) (fun _ x10 _ => n - (intOf x10).toNat)
  case atStart => exact ⟨0, Nat.zero_le _, rfl, World.ownsRow_nil _ _ _ _, Below.refl _ _⟩
  case round =>
    obtain ⟨j, hj, rfl, HO5, HW⟩ := hrel
    by_cases hlt : j < n
    · rcases HP.out.on HW.out with h0 | ⟨b, off, hsa, hcs⟩
      · omega
      obtain ⟨c0, c1⟩ := hcs j hlt
      clear hcs
      have hb := hideH ((Below.refl _ wr).alloc (Nat.le_refl _) (.cells #[.string (ss j).nm, (ss j).sl] 47))
      have hbz := hideH HW.out.size
      go_wp2_with (first
        | (go_at_call 51; refine (check1_c (ss j).nm (ss j).sl _).mono ?_; rintro e w1 ⟨rfl, hw1⟩; have H1 := hideH (bthen hb.out hw1); have O1 := hideH (own_on HO5.out H1.out); have hs1 := hideH (Nat.le_trans hbz.out H1.out.size); clear hw1)
        | (at_builtin; refine wpList_append_own _ rfl _ _ 57 rfl w.heap.size 9 i0 (.string ⟨#[]⟩) 1 16 Tryz.underlying57 hi hz0 hz1 hz2 rfl (by decide) _ _ _ rfl (O1.out.alloc _) ⟨w1.heap.size, 0, none⟩ 1 1 [.string (ss j).nm] rfl rfl (cell_one_new _ _ _) (by simp [Value.oneCell']) (by unfold maxLen; omega) (by omega) (by have := hs1.out; simp; omega) ?_; intro v' w2 hown' hgrow _))
      have hbl := hideH ((bthen HW.out H1.out).trans (((Below.refl _ w1).alloc (Nat.le_refl _) (.cells #[.string (ss j).nm] 9)).mono hs1.out))
      try simp only [← hsa]
      go_roundw
      case rel =>
        refine ⟨j + 1, by omega, by go_num, ?_, ?_⟩
        · show World.ownsRow _ _ _ _ _ _ _
          rw [List.range_succ, List.map_append]
          exact hown'
        · show Below _ _ _
          exact hbl.out.grown hgrow (by have := hs1.out; simp; omega) (fun k hk => (O1.out.lt k hk).1)
      case measure => simp [intOf]; omega
    · obtain rfl : j = n := by omega
      go_wp2_with fail
      go_ret
      exact ⟨_, rfl, HO5.out, HW.out⟩

set_option maxHeartbeats 4000000 in
theorem namesZ_c (a : Option Addr) (n c : Nat) (zs : Nat → Zn) (w : World) (hn : n ≤ 1000) (hP : P2 w a n (fun j => .string (zs j).nm) (fun j => (zs j).sl)) :
    Calls Tryz.prog 52 #[.slice a n c, .func (.func 53) #[] #[]] w fun e w' => ∃ v, e = .returned v ∧ w'.ownsRow w.heap.size 9 1 v n ((List.range n).map fun j => .string (zs j).nm) ∧ Below w.heap.size w w' := by
  have HP := hideH hP
  clear hP
  obtain ⟨i0, hi, hz0, hz1, hz2⟩ := info_parts info_str
  go_enter Tryz.func52, Tryz.ntmps52
  go_wp2_with fail
  go_loopw [5, 10] (fun x5 x10 wr => ∃ j : Nat, j ≤ n ∧ x10 = .int .i64 j ∧ Hid (wr.ownsRow w.heap.size 9 1 x5 j ((List.range j).map fun j => .string (zs j).nm)) ∧ Hid (Below w.heap.size w wr)) (fun _ x10 _ => n - (intOf x10).toNat)
  case atStart => exact ⟨0, Nat.zero_le _, rfl, World.ownsRow_nil _ _ _ _, Below.refl _ _⟩
  case round =>
    obtain ⟨j, hj, rfl, HO5, HW⟩ := hrel
    by_cases hlt : j < n
    · rcases HP.out.on HW.out with h0 | ⟨b, off, hsa, hcs⟩
      · omega
      obtain ⟨c0, c1⟩ := hcs j hlt
      clear hcs
      have hb := hideH ((Below.refl _ wr).alloc (Nat.le_refl _) (.cells #[.string (zs j).nm, (zs j).sl] 51))
      have hbz := hideH HW.out.size
      go_wp2_with (first
        | (go_at_call 53; refine (check2_c (zs j).nm (zs j).sl _).mono ?_; rintro e w1 ⟨rfl, hw1⟩; have H1 := hideH (bthen hb.out hw1); have O1 := hideH (own_on HO5.out H1.out); have hs1 := hideH (Nat.le_trans hbz.out H1.out.size); clear hw1)
        | (at_builtin; refine wpList_append_own _ rfl _ _ 57 rfl w.heap.size 9 i0 (.string ⟨#[]⟩) 1 16 Tryz.underlying57 hi hz0 hz1 hz2 rfl (by decide) _ _ _ rfl (O1.out.alloc _) ⟨w1.heap.size, 0, none⟩ 1 1 [.string (zs j).nm] rfl rfl (cell_one_new _ _ _) (by simp [Value.oneCell']) (by unfold maxLen; omega) (by omega) (by have := hs1.out; simp; omega) ?_; intro v' w2 hown' hgrow _))
      have hbl := hideH ((bthen HW.out H1.out).trans (((Below.refl _ w1).alloc (Nat.le_refl _) (.cells #[.string (zs j).nm] 9)).mono hs1.out))
      try simp only [← hsa]
      go_roundw
      case rel =>
        refine ⟨j + 1, by omega, by go_num, ?_, ?_⟩
        · show World.ownsRow _ _ _ _ _ _ _
          rw [List.range_succ, List.map_append]
          exact hown'
        · show Below _ _ _
          exact hbl.out.grown hgrow (by have := hs1.out; simp; omega) (fun k hk => (O1.out.lt k hk).1)
      case measure => simp [intOf]; omega
    · obtain rfl : j = n := by omega
      go_wp2_with fail
      go_ret
      exact ⟨_, rfl, HO5.out, HW.out⟩

set_option maxHeartbeats 4000000 in
theorem namesL_c (a : Option Addr) (n c : Nat) (ls : Nat → Lk) (w : World) (hn : n ≤ 1000) (hP : P2 w a n (fun j => .string (ls j).nm) (fun j => .string (ls j).tgt)) :
    Calls Tryz.prog 54 #[.slice a n c, .func (.func 55) #[] #[]] w fun e w' => ∃ v, e = .returned v ∧ w'.ownsRow w.heap.size 9 1 v n ((List.range n).map fun j => .string (ls j).nm) ∧ Below w.heap.size w w' := by
  have HP := hideH hP
  clear hP
  obtain ⟨i0, hi, hz0, hz1, hz2⟩ := info_parts info_str
  go_enter Tryz.func54, Tryz.ntmps54
  go_wp2_with fail
  go_loopw [5, 10] (fun x5 x10 wr => ∃ j : Nat, j ≤ n ∧ x10 = .int .i64 j ∧ Hid (wr.ownsRow w.heap.size 9 1 x5 j ((List.range j).map fun j => .string (ls j).nm)) ∧ Hid (Below w.heap.size w wr)) (fun _ x10 _ => n - (intOf x10).toNat)
  case atStart => exact ⟨0, Nat.zero_le _, rfl, World.ownsRow_nil _ _ _ _, Below.refl _ _⟩
  case round =>
    obtain ⟨j, hj, rfl, HO5, HW⟩ := hrel
    by_cases hlt : j < n
    · rcases HP.out.on HW.out with h0 | ⟨b, off, hsa, hcs⟩
      · omega
      obtain ⟨c0, c1⟩ := hcs j hlt
      clear hcs
      have hb := hideH ((Below.refl _ wr).alloc (Nat.le_refl _) (.cells #[.string (ls j).nm, .string (ls j).tgt] 54))
      have hbz := hideH HW.out.size
      go_wp2_with (first
        | (go_at_call 55; refine (check3_c (ls j).nm (ls j).tgt _).mono ?_; rintro e w1 ⟨rfl, hw1⟩; have H1 := hideH (bthen hb.out hw1); have O1 := hideH (own_on HO5.out H1.out); have hs1 := hideH (Nat.le_trans hbz.out H1.out.size); clear hw1)
        | (at_builtin; refine wpList_append_own _ rfl _ _ 57 rfl w.heap.size 9 i0 (.string ⟨#[]⟩) 1 16 Tryz.underlying57 hi hz0 hz1 hz2 rfl (by decide) _ _ _ rfl (O1.out.alloc _) ⟨w1.heap.size, 0, none⟩ 1 1 [.string (ls j).nm] rfl rfl (cell_one_new _ _ _) (by simp [Value.oneCell']) (by unfold maxLen; omega) (by omega) (by have := hs1.out; simp; omega) ?_; intro v' w2 hown' hgrow _))
      have hbl := hideH ((bthen HW.out H1.out).trans (((Below.refl _ w1).alloc (Nat.le_refl _) (.cells #[.string (ls j).nm] 9)).mono hs1.out))
      try simp only [← hsa]
      go_roundw
      case rel =>
        refine ⟨j + 1, by omega, by go_num, ?_, ?_⟩
        · show World.ownsRow _ _ _ _ _ _ _
          rw [List.range_succ, List.map_append]
          exact hown'
        · show Below _ _ _
          exact hbl.out.grown hgrow (by have := hs1.out; simp; omega) (fun k hk => (O1.out.lt k hk).1)
      case measure => simp [intOf]; omega
    · obtain rfl : j = n := by omega
      go_wp2_with fail
      go_ret
      exact ⟨_, rfl, HO5.out, HW.out⟩

set_option maxHeartbeats 4000000 in
theorem namesT_c (a : Option Addr) (n c : Nat) (ls : Nat → Lk) (w : World) (hn : n ≤ 1000) (hP : P2 w a n (fun j => .string (ls j).nm) (fun j => .string (ls j).tgt)) :
    Calls Tryz.prog 54 #[.slice a n c, .func (.func 56) #[] #[]] w fun e w' => ∃ v, e = .returned v ∧ w'.ownsRow w.heap.size 9 1 v n ((List.range n).map fun j => .string (ls j).tgt) ∧ Below w.heap.size w w' := by
  have HP := hideH hP
  clear hP
  obtain ⟨i0, hi, hz0, hz1, hz2⟩ := info_parts info_str
  go_enter Tryz.func54, Tryz.ntmps54
  go_wp2_with fail
  go_loopw [5, 10] (fun x5 x10 wr => ∃ j : Nat, j ≤ n ∧ x10 = .int .i64 j ∧ Hid (wr.ownsRow w.heap.size 9 1 x5 j ((List.range j).map fun j => .string (ls j).tgt)) ∧ Hid (Below w.heap.size w wr)) (fun _ x10 _ => n - (intOf x10).toNat)
  case atStart => exact ⟨0, Nat.zero_le _, rfl, World.ownsRow_nil _ _ _ _, Below.refl _ _⟩
  case round =>
    obtain ⟨j, hj, rfl, HO5, HW⟩ := hrel
    by_cases hlt : j < n
    · rcases HP.out.on HW.out with h0 | ⟨b, off, hsa, hcs⟩
      · omega
      obtain ⟨c0, c1⟩ := hcs j hlt
      clear hcs
      have hb := hideH ((Below.refl _ wr).alloc (Nat.le_refl _) (.cells #[.string (ls j).nm, .string (ls j).tgt] 54))
      have hbz := hideH HW.out.size
      go_wp2_with (first
        | (go_at_call 56; refine (check4_c (ls j).nm (ls j).tgt _).mono ?_; rintro e w1 ⟨rfl, hw1⟩; have H1 := hideH (bthen hb.out hw1); have O1 := hideH (own_on HO5.out H1.out); have hs1 := hideH (Nat.le_trans hbz.out H1.out.size); clear hw1)
        | (at_builtin; refine wpList_append_own _ rfl _ _ 57 rfl w.heap.size 9 i0 (.string ⟨#[]⟩) 1 16 Tryz.underlying57 hi hz0 hz1 hz2 rfl (by decide) _ _ _ rfl (O1.out.alloc _) ⟨w1.heap.size, 0, none⟩ 1 1 [.string (ls j).tgt] rfl rfl (cell_one_new _ _ _) (by simp [Value.oneCell']) (by unfold maxLen; omega) (by omega) (by have := hs1.out; simp; omega) ?_; intro v' w2 hown' hgrow _))
      have hbl := hideH ((bthen HW.out H1.out).trans (((Below.refl _ w1).alloc (Nat.le_refl _) (.cells #[.string (ls j).tgt] 9)).mono hs1.out))
      try simp only [← hsa]
      go_roundw
      case rel =>
        refine ⟨j + 1, by omega, by go_num, ?_, ?_⟩
        · show World.ownsRow _ _ _ _ _ _ _
          rw [List.range_succ, List.map_append]
          exact hown'
        · show Below _ _ _
          exact hbl.out.grown hgrow (by have := hs1.out; simp; omega) (fun k hk => (O1.out.lt k hk).1)
      case measure => simp [intOf]; omega
    · obtain rfl : j = n := by omega
      go_wp2_with fail
      go_ret
      exact ⟨_, rfl, HO5.out, HW.out⟩
end Go.Proofs.YtbpdbggojgijiaaGreatDoor

/- Contracts of package data: places (a map of names). -/
namespace Go.Proofs.YtbpdbggojgijiaaGreatDoor
open Go Go.RowKit Go.Maps
set_option linter.unusedVariables false

/-- no name stands twice -/
abbrev dist (nm : Nat → ByteArray) (n : Nat) : Prop := ∀ i, i < n → ∀ j, j < i → (nm i).data.toList ≠ (nm j).data.toList
/-- names and their places, as a map reads -/
def pm (nm : Nat → ByteArray) : Nat → DataW Unit
  | 0 => .map []
  | k + 1 => (pm nm k).put (.string (nm k).data.toList) (.lit (.int .i64 k))
theorem pm_isMap (nm : Nat → ByteArray) : ∀ k, IsMap (pm nm k)
  | 0 => isMap_empty
  | k + 1 => (pm_isMap nm k).put _ _
theorem keyLit (l : List UInt8) : WideAt.IsKeyLit (.string l) := by trivial
theorem pm_has (nm : Nat → ByteArray) (s : List UInt8) : ∀ k, Maps.has (pm nm k) (.string s) = true ↔ ∃ j, j < k ∧ (nm j).data.toList = s
  | 0 => by
    constructor
    · intro h; simp [pm, has_eq] at h
    · rintro ⟨j, h, _⟩; omega
  | k + 1 => by
    unfold pm
    by_cases hs : s = (nm k).data.toList
    · subst hs
      rw [has_put_same (pm_isMap nm k) (keyLit _)]
      exact ⟨fun _ => ⟨k, by omega, rfl⟩, fun _ => rfl⟩
    · rw [has_put_other (fun e => hs (by injection e)), pm_has nm s k]
      constructor
      · rintro ⟨j, h, e⟩; exact ⟨j, by omega, e⟩
      · rintro ⟨j, h, e⟩
        rcases Nat.lt_or_ge j k with h1 | h1
        · exact ⟨j, h1, e⟩
        · obtain rfl : j = k := by omega
          exact absurd e.symm hs
theorem pm_at (nm : Nat → ByteArray) (z : DataW Unit) : ∀ k, dist nm k → ∀ j, j < k → (pm nm k).atKey (.string (nm j).data.toList) z = .lit (.int .i64 j)
  | 0, _, j, h => by omega
  | k + 1, hd, j, h => by
    unfold pm
    rcases Nat.lt_or_ge j k with h1 | h1
    · rw [atKey_put_other (fun e => hd k (by omega) j h1 (by injection e with e; exact e.symm))]
      exact pm_at nm z k (fun i hi j' hj => hd i (by omega) j' hj) j h1
    · obtain rfl : j = k := by omega
      exact atKey_put_same (pm_isMap nm j) (keyLit _) _ _
/-- the map of names lies in block B -/
def MAt (w : World) (B : Nat) (nm : Nat → ByteArray) (n : Nat) : Prop := w.ownsMap Tryz.prog 9 (plainElem Tryz.prog 3) B n (pm nm n)
theorem MAt.on {w w' : World} {B n : Nat} {nm : Nat → ByteArray} (h : MAt w B nm n) (hb : Below w.heap.size w w') : MAt w' B nm n :=
  World.ownsMap.kept (row := none) h ⟨hb.os, hb.tape, hb.output, hb.size, fun k hk _ => hb.block k hk⟩ (by simp)
theorem law : Keyed Tryz.prog 9 := string_keyed Tryz.underlying9
theorem zero_int (w : World) : (zeroValue 3).run Tryz.prog w = .ok (.int .i64 0) w := by kernel_rfl

set_option maxHeartbeats 4000000 in
theorem places_c (a : Option Addr) (n c : Nat) (nm : Nat → ByteArray) (w : World) (hn : n ≤ 1000) (hz : ∀ j, j < n → (nm j).size ≤ maxLen) (hP : P1 w a n (fun j => .string (nm j))) :
    Calls Tryz.prog 60 #[.slice a n c] w fun e w' => Below w.heap.size w w' ∧ ((dist nm n ∧ e = .returned (.map (some w.heap.size)) ∧ MAt w' w.heap.size nm n) ∨ (¬ dist nm n ∧ e = left 6)) := by
  have HP := hideH hP
  have HZ := hideH hz
  clear hP hz
  have hmm := @run_makeMap Tryz.prog
  go_enter Tryz.func60, Tryz.ntmps60
  go_wp2_with fail
  clear hmm
  go_loopw [11] (fun x11 wr => ∃ j : Nat, j ≤ n ∧ x11 = .int .i64 j ∧ Hid (MAt wr w.heap.size nm j) ∧ Hid (Below w.heap.size w wr) ∧ Hid (dist nm j)) (fun x11 _ => n - (intOf x11).toNat)
  case atStart => exact ⟨0, Nat.zero_le _, rfl, World.ownsMap_made _ _ _ _, (Below.refl _ _).alloc (Nat.le_refl _) _, fun i hi => by omega⟩
  case round =>
    obtain ⟨j, hj, rfl, HO, HW, HD⟩ := hrel
    by_cases hlt : j < n
    · rcases HP.out.on HW.out with h0 | ⟨b, off, hsa, hcs⟩
      · omega
      have c0 := hcs j hlt
      clear hcs
      have hkey := hideH (WideMaps.keyOf_string_mk (P := Tryz.prog) Tryz.underlying9 (HZ.out j hlt))
      cases hh : Maps.has (pm nm j) (.string (nm j).data.toList)
      · have HN : Hid (dist nm (j + 1)) := fun i hi k hk => by
          rcases Nat.lt_or_ge i j with h | h
          · exact HD.out i h k hk
          · obtain rfl : i = j := by omega
            intro e
            have := (pm_has nm (nm i).data.toList i).2 ⟨k, hk, e.symm⟩
            rw [hh] at this; cases this
        go_wp2_with (first
          | (at_lookup; refine wpList_lookup_own_ok_int _ rfl _ _ 76 rfl 9 3 .i64 law Tryz.underlying76 Tryz.underlying3 (zero_int _) w.heap.size j (pm nm j) rfl HO.out _ _ rfl hkey.out ?_; intro c1 hat hwc; clear hat hwc)
          | (go_at_call 58; refine (refuse_f (by first | rfl | simp [hh]) _ _).mono ?_; rintro x wr ⟨rfl, rfl⟩)
          | (at_mapUpdate; refine wpList_mapUpdate_own _ rfl _ _ _ 76 rfl 9 3 law Tryz.underlying76 _ w.heap.size j (pm nm j) rfl HO.out (by unfold maxLen; omega) _ _ _ rfl rfl hkey.out (.lit (.int .i64 j)) [] (plainElem_int Tryz.underlying3 (WalkArith.wf_i64 (by omega))) ?_; intro w1 hown1 hgrow1))
        simp only [← hsa]
        go_roundw
        case rel => exact ⟨j + 1, by omega, by go_num, hown1, HW.out.grown hgrow1 HW.out.size (fun k e => by cases e; exact Nat.le_refl _), HN⟩
        case measure => simp [intOf]; omega
      · have HN : Hid (¬ dist nm n) := fun hd => by
          obtain ⟨k, hk, e⟩ := (pm_has nm (nm j).data.toList j).1 hh
          exact hd j hlt k hk e.symm
        go_wp2_with (first
          | (at_lookup; refine wpList_lookup_own_ok_int _ rfl _ _ 76 rfl 9 3 .i64 law Tryz.underlying76 Tryz.underlying3 (zero_int _) w.heap.size j (pm nm j) rfl HO.out _ _ rfl hkey.out ?_; intro c1 hat hwc; clear hat hwc)
          | (go_at_call 58; refine (refuse_t (by first | rfl | simp [hh]) _ _).mono ?_; rintro x wr ⟨rfl, rfl⟩))
        exact ⟨rfl, HW.out, .inr ⟨HN.out, (left_no (by decide)).symm⟩⟩
    · obtain rfl : j = n := by omega
      go_wp2_with fail
      go_ret
      exact ⟨HW.out, .inl ⟨HD.out, rfl, HO.out⟩⟩
end Go.Proofs.YtbpdbggojgijiaaGreatDoor

/- Contracts of package data: lead. -/
namespace Go.Proofs.YtbpdbggojgijiaaGreatDoor
open Go Go.RowKit Go.Maps
set_option linter.unusedVariables false

/-- the names of all zones, and of all links behind them -/
def nms (D : Dt) (j : Nat) : ByteArray := if j < D.nz then (D.zs j).nm else (D.ls (j - D.nz)).nm
/-- where a name stands first -/
def idx (D : Dt) (s : ByteArray) : Option Nat := (List.range (D.nz + D.nl)).find? fun j => (nms D j).data.toList == s.data.toList
/-- whereto a name leads in so many steps, and the error -/
def leadK (D : Dt) : Nat → ByteArray → Int × Int
  | 0, _ => (0, 7)
  | k + 1, s => match idx D s with
    | none => (0, 4)
    | some j => if j < D.nz then (j, 0) else leadK D k (D.ls (j - D.nz)).tgt
/-- how it is left -/
def leadX (r : Int × Int) : Ending := if r.2 = 0 then .returned (.int .i64 r.1) else .panicked [{ v := errV r.2, recovered := false }]
theorem idx_none {D : Dt} {s : ByteArray} (h : idx D s = none) : ∀ j, j < D.nz + D.nl → (nms D j).data.toList ≠ s.data.toList := by
  intro j hj e
  unfold idx at h
  rw [List.find?_eq_none] at h
  exact h j (List.mem_range.2 hj) (by simpa using e)
theorem idx_some {D : Dt} {s : ByteArray} {j : Nat} (h : idx D s = some j) : j < D.nz + D.nl ∧ (nms D j).data.toList = s.data.toList := by
  unfold idx at h
  exact ⟨List.mem_range.1 (List.mem_of_find?_eq_some h), by simpa using List.find?_some h⟩

set_option maxRecDepth 100000 in
set_option maxHeartbeats 4000000 in
theorem lead_c (D : Dt) (s : ByteArray) (B : Nat) (w : World) (hD : DAt w D) (hF : D.fits) (h1 : few1 D) (hd : dist (nms D) (D.nz + D.nl)) (hM : MAt w B (nms D) (D.nz + D.nl)) (hs : s.size ≤ maxLen) :
    Calls Tryz.prog 82 #[D.v, .map (some B), .string s] w fun e w' => e = leadX (leadK D (D.nl + 1) s) ∧ Below w.heap.size w w' := by
  generalize hV : leadX (leadK D (D.nl + 1) s) = V
  have HV := hideH hV
  have HD := hideH hD
  have HF := hideH hF
  have HI := hideH hd
  have HM := hideH hM
  obtain ⟨n1, n2, n3⟩ := h1
  clear hV hD hF hd hM
  have hbl := hideH ((Below.refl _ w).alloc (Nat.le_refl _) (.cells #[.slice D.sa D.ns D.sc, .slice D.za D.nz D.zc, .slice D.la D.nl D.lc] 26))
  have HM2 := hideH (HM.out.on hbl.out)
  have HL2 := hideH (HD.out.on hbl.out).links
  go_enter Tryz.func82, Tryz.ntmps82
  go_wp2_with fail
  go_loop [2, 13] (fun x2 x13 => ∃ (k : Nat) (t : ByteArray), k ≤ D.nl + 1 ∧ x13 = .int .i64 k ∧ x2 = .string t ∧ Hid (t.size ≤ maxLen) ∧ Hid (leadK D (D.nl + 1 - k) t = leadK D (D.nl + 1) s)) (fun _ x13 => D.nl + 1 - (intOf x13).toNat)
  case atStart => exact ⟨0, s, Nat.zero_le _, rfl, rfl, hs, rfl⟩
  case round =>
    obtain ⟨k, t, hk, rfl, rfl, HT, HL⟩ := hrel
    by_cases hlt : k < D.nl + 1
    · have hkey := hideH (WideMaps.keyOf_string_mk (P := Tryz.prog) Tryz.underlying9 HT.out)
      obtain ⟨m, hm⟩ : ∃ m, D.nl + 1 - k = m + 1 := ⟨D.nl - k, by omega⟩
      cases hix : idx D t with
      | none =>
        have hh : Maps.has (pm (nms D) (D.nz + D.nl)) (.string t.data.toList) = false := by
          cases h : Maps.has (pm (nms D) (D.nz + D.nl)) (.string t.data.toList)
          · rfl
          · obtain ⟨j, hj, e⟩ := (pm_has _ _ _).1 h
            exact absurd e (idx_none hix j hj)
        have HX : Hid (V = .panicked [{ v := errV 4, recovered := false }]) := by
          show V = _
          rw [← HV.out, ← HL.out, hm]
          unfold leadK; rw [hix]; rfl
        clear hix
        go_wp2_with (first
          | (at_lookup; refine wpList_lookup_own_ok_int _ rfl _ _ 76 rfl 9 3 .i64 law Tryz.underlying76 Tryz.underlying3 (zero_int _) B (D.nz + D.nl) (pm (nms D) (D.nz + D.nl)) rfl HM2.out _ _ rfl hkey.out ?_; intro c1 hat hwc; clear hat hwc)
          | (go_at_call 58; refine (refuse_t (by first | rfl | simp [hh]) _ _).mono ?_; rintro x wr ⟨rfl, rfl⟩))
        exact ⟨rfl, HX.out.symm, hbl.out⟩
      | some j =>
        obtain ⟨hj, hjt⟩ := idx_some hix
        have hh : Maps.has (pm (nms D) (D.nz + D.nl)) (.string t.data.toList) = true := (pm_has _ _ _).2 ⟨j, hj, hjt⟩
        have hat0 := hideH (pm_at (nms D) (.lit (.int .i64 0)) _ HI.out j hj)
        by_cases hz : j < D.nz
        · have HX : Hid (V = .returned (.int .i64 j)) := by
            show V = _
            rw [← HV.out, ← HL.out, hm]
            unfold leadK; rw [hix]; simp only [hz, if_true]; rfl
          clear hix
          have HJT := hideH hjt
          clear hjt
          go_wp2_with (first
            | (at_lookup; refine wpList_lookup_own_ok_int _ rfl _ _ 76 rfl 9 3 .i64 law Tryz.underlying76 Tryz.underlying3 (zero_int _) B (D.nz + D.nl) (pm (nms D) (D.nz + D.nl)) rfl HM2.out _ _ rfl hkey.out ?_; intro c1 hat hwc; obtain rfl : c1 = (j : Int) := (by have h2 := hat0.out; rw [HJT.out, hat] at h2; injection h2 with h2; injection h2); clear hat hwc)
            | (go_at_call 58; refine (refuse_f (by first | rfl | simp [hh]) _ _).mono ?_; rintro x wr ⟨rfl, rfl⟩))
          go_ret
          exact ⟨HX.out.symm, hbl.out⟩
        · obtain ⟨q, rfl⟩ : ∃ q, j = D.nz + q := ⟨j - D.nz, by omega⟩
          have hq : q < D.nl := by omega
          have HX : Hid (leadK D (D.nl + 1 - (k + 1)) (D.ls q).tgt = leadK D (D.nl + 1) s) := by
            show leadK _ _ _ = _
            rw [← HL.out, hm, show D.nl + 1 - (k + 1) = m from by omega]
            conv => rhs; unfold leadK
            rw [hix]; simp only [hz, if_false, Nat.add_sub_cancel_left]
          clear hix
          have HJT := hideH hjt
          clear hjt
          rcases HL2.out with h0 | ⟨b, off, hsa, hcs⟩
          · omega
          have c1 := (hcs q hq).2
          clear hcs
          rw [hsa] at c1
          have HM3 : Hid (MAt (w.alloc (.cells #[.slice D.sa D.ns D.sc, .slice D.za D.nz D.zc, .slice (some ⟨b, off, none⟩) D.nl D.lc] 26)) B (nms D) (D.nz + D.nl)) := by
            have h3 := HM2.out
            rw [hsa] at h3
            exact h3
          have hz' : ¬ ((D.nz + q : Nat) : Int) < D.nz := by omega
          have hsub : ((D.nz + q : Nat) : Int) - D.nz = q := by omega
          go_wp2_with (first
            | (at_lookup; refine wpList_lookup_own_ok_int _ rfl _ _ 76 rfl 9 3 .i64 law Tryz.underlying76 Tryz.underlying3 (zero_int _) B (D.nz + D.nl) (pm (nms D) (D.nz + D.nl)) rfl HM3.out _ _ rfl hkey.out ?_; intro c1 hat hwc; obtain rfl : c1 = ((D.nz + q : Nat) : Int) := (by have h2 := hat0.out; rw [HJT.out, hat] at h2; injection h2 with h2; injection h2); clear hat hwc)
            | (go_at_call 58; refine (refuse_f (by first | rfl | simp [hh]) _ _).mono ?_; rintro x wr ⟨rfl, rfl⟩))
          simp only [← hsa]
          go_round
          case rel => exact ⟨k + 1, (D.ls q).tgt, by omega, by go_num, rfl, HF.out.lto q hq, HX⟩
          case measure => simp [intOf]; omega
    · have HX : Hid (V = .panicked [{ v := errV 7, recovered := false }]) := by
        show V = _
        rw [← HV.out, ← HL.out, show D.nl + 1 - k = 0 from by omega]
        rfl
      go_wp2_with fail
      exact ⟨rfl, HX.out.symm, hbl.out⟩
end Go.Proofs.YtbpdbggojgijiaaGreatDoor

/- Contracts of package data: refuseRules, refuseLinks. -/
namespace Go.Proofs.YtbpdbggojgijiaaGreatDoor
open Go Go.RowKit Go.Maps
set_option linter.unusedVariables false

/-- the first of n numbers that is not 0 -/
def fstE (f : Nat → Int) : Nat → Int
  | 0 => 0
  | k + 1 => if fstE f k = 0 then f k else fstE f k
theorem fstE_zero {f : Nat → Int} : ∀ {k : Nat}, (∀ i, i < k → f i = 0) → fstE f k = 0
  | 0, _ => rfl
  | k + 1, h => by unfold fstE; rw [if_pos (fstE_zero fun i hi => h i (by omega))]; exact h k (by omega)
theorem fstE_at {f : Nat → Int} : ∀ {n k : Nat}, (∀ i, i < k → f i = 0) → f k ≠ 0 → k < n → fstE f n = f k
  | 0, k, _, _, h => by omega
  | n + 1, k, h0, h1, h => by
    unfold fstE
    rcases Nat.lt_or_ge k n with h2 | h2
    · rw [fstE_at h0 h1 h2, if_neg h1]
    · obtain rfl : k = n := by omega
      rw [if_pos (fstE_zero h0)]
theorem fstE_all {f : Nat → Int} : ∀ {n : Nat}, fstE f n = 0 → ∀ i, i < n → f i = 0
  | 0, _, i, h => by omega
  | n + 1, h, i, hi => by
    unfold fstE at h
    by_cases h2 : fstE f n = 0
    · rw [if_pos h2] at h
      rcases Nat.lt_or_ge i n with h3 | h3
      · exact fstE_all h2 i h3
      · obtain rfl : i = n := by omega
        exact h
    · rw [if_neg h2] at h; exact absurd h h2
/-- rules.Check's first error -/
def setE (s : St) : Int := fstE (fun i => rchk (s.rs i)) s.n
def rulE (D : Dt) : Int := fstE (fun j => setE (D.ss j)) D.ns

set_option maxRecDepth 100000 in
set_option maxHeartbeats 4000000 in
theorem refuseRules_c (D : Dt) (w : World) (hL : Laid w) (hD : DAt w D) (hF : D.fits) : Calls Tryz.prog 61 #[.slice D.sa D.ns D.sc] w fun e w' => e = left (rulE D) ∧ Below w.heap.size w w' := by
  generalize hV : left (rulE D) = V
  have HV := hideH hV
  have HL := hideH hL
  have HD := hideH hD
  have HF := hideH hF
  have n1 := hF.ns
  unfold maxLen at n1
  clear hV hL hD hF
  go_enter Tryz.func61, Tryz.ntmps61
  go_wp2_with fail
  go_loopw [9] (fun x9 wr => ∃ j : Nat, j ≤ D.ns ∧ x9 = .int .i64 j ∧ Hid (Below w.heap.size w wr) ∧ Hid (∀ i, i < j → setE (D.ss i) = 0)) (fun x9 _ => D.ns - (intOf x9).toNat)
  case atStart => exact ⟨0, Nat.zero_le _, rfl, Below.refl _ _, fun i hi => by omega⟩
  case round =>
    obtain ⟨j, hj, rfl, HW, HA⟩ := hrel
    by_cases hlt : j < D.ns
    · have nj := HF.out.sn j hlt
      unfold maxLen at nj
      rcases (HD.out.on HW.out).sets with h0 | ⟨b, off, hsa, hcs⟩
      · omega
      obtain ⟨c0, c1⟩ := hcs j hlt
      clear hcs
      go_wp2_with fail
      clear c0 c1
      simp only [← hsa]
      clear hsa
      have hb := hideH ((Below.refl _ wr).alloc (Nat.le_refl _) (.cells #[.string (D.ss j).nm, (D.ss j).sl] 47))
      have HW1 := hideH (bthen HW.out hb.out)
      clear hb
      go_loopw [16] (fun x16 v => ∃ i : Nat, i ≤ (D.ss j).n ∧ x16 = .int .i64 i ∧ Hid (Below w.heap.size w v) ∧ Hid (∀ k, k < i → rchk ((D.ss j).rs k) = 0)) (fun x16 _ => (D.ss j).n - (intOf x16).toNat)
      case atStart => exact ⟨0, Nat.zero_le _, rfl, HW1, fun i hi => by omega⟩
      case round =>
        obtain ⟨i, hi, rfl, HW2, HB⟩ := hrel
        by_cases hli : i < (D.ss j).n
        · rcases (HD.out.on HW2.out).rules j hlt with h0 | ⟨b2, off2, hra, hcs⟩
          · omega
          obtain ⟨c0, c1, c2, c3, c4, c5, c6, c7, c8⟩ := hcs i hli
          clear hcs
          have hb := hideH ((Below.refl _ wr).alloc (Nat.le_refl _) (.cells ((D.ss j).rs i).cs 65))
          have HW3 := hideH (bthen HW2.out hb.out)
          have L3 := hideH (HL.out.on HW3.out)
          clear hb
          rcases beq_cases (rchk ((D.ss j).rs i)) 0 with ⟨q1, q2⟩ | ⟨q1, q2⟩
          · have HB2 : Hid (∀ k, k < i + 1 → rchk ((D.ss j).rs k) = 0) := fun k hk => by
              rcases Nat.lt_or_ge k i with h | h
              · exact HB.out k h
              · obtain rfl : k = i := by omega
                exact q2
            go_wp2_with (first
              | (go_at_call 78; refine (RCheck_c ((D.ss j).rs i) _ L3.out (HF.out.lt j hlt i hli)).mono ?_; rintro e w4 ⟨rfl, hw4⟩; have HW4 := hideH (bthen HW3.out hw4); clear hw4)
              | (go_at_call 58; refine (refuse_f (by first | rfl | simp [q2]) _ _).mono ?_; rintro x w4 ⟨rfl, rfl⟩))
            simp only [← hra]
            go_roundw
            case rel => exact ⟨i + 1, by omega, by go_num, HW4, HB2⟩
            case measure => simp [intOf]; omega
          · have HX : Hid (V = .panicked [{ v := errV (rchk ((D.ss j).rs i)), recovered := false }]) := by
              show V = _
              have e1 : setE (D.ss j) = rchk ((D.ss j).rs i) := fstE_at (f := fun i => rchk ((D.ss j).rs i)) HB.out q2 hli
              have e2 : rulE D = setE (D.ss j) := fstE_at (f := fun j => setE (D.ss j)) HA.out (by rw [e1]; exact q2) hlt
              rw [← HV.out, e2, e1, left_no q2]
            go_wp2_with (first
              | (go_at_call 78; refine (RCheck_c ((D.ss j).rs i) _ L3.out (HF.out.lt j hlt i hli)).mono ?_; rintro e w4 ⟨rfl, hw4⟩; have HW4 := hideH (bthen HW3.out hw4); clear hw4)
              | (go_at_call 58; refine (refuse_t (by first | rfl | simp [q2]) _ _).mono ?_; rintro x w4 ⟨rfl, rfl⟩))
            exact ⟨rfl, HX.out.symm, HW4.out⟩
        · have HA2 : Hid (∀ i, i < j + 1 → setE (D.ss i) = 0) := fun k hk => by
            rcases Nat.lt_or_ge k j with h | h
            · exact HA.out k h
            · obtain rfl : k = j := by omega
              exact fstE_zero (f := fun i => rchk ((D.ss k).rs i)) (fun m hm => HB.out m (by omega))
          go_wp2_with fail
          go_roundw
          case rel => exact ⟨j + 1, by omega, by go_num, HW2, HA2⟩
          case measure => simp [intOf]; omega
    · have HX : Hid (V = .returned (.tuple #[])) := by
        show V = _
        rw [← HV.out, show rulE D = 0 from fstE_zero (f := fun j => setE (D.ss j)) (fun i hi => HA.out i (by omega))]
        rfl
      go_wp2_with fail
      go_end0
      exact ⟨HX.out.symm, HW.out⟩
end Go.Proofs.YtbpdbggojgijiaaGreatDoor

/- Contracts of package data: refuseLinks. -/
namespace Go.Proofs.YtbpdbggojgijiaaGreatDoor
open Go Go.RowKit Go.Maps
set_option linter.unusedVariables false

/-- each link leads to something -/
abbrev lnk1 (D : Dt) : Prop := ∀ j, j < D.nl → (idx D (D.ls j).tgt).isSome = true
/-- the first error of all links' ways -/
def lnk2 (D : Dt) : Int := fstE (fun j => (leadK D (D.nl + 1) (D.ls j).nm).2) D.nl
theorem idx_has {D : Dt} {s : ByteArray} : Maps.has (pm (nms D) (D.nz + D.nl)) (.string s.data.toList) = (idx D s).isSome := by
  cases h : idx D s with
  | none =>
    cases h2 : Maps.has (pm (nms D) (D.nz + D.nl)) (.string s.data.toList)
    · rfl
    · obtain ⟨j, hj, e⟩ := (pm_has _ _ _).1 h2
      exact absurd e (idx_none h j hj)
  | some j => exact (pm_has _ _ _).2 ⟨j, idx_some h⟩

theorem leadX_ok {r : Int × Int} (h : r.2 = 0) : leadX r = .returned (.int .i64 r.1) := by unfold leadX; rw [if_pos h]
theorem leadX_no {r : Int × Int} (h : r.2 ≠ 0) : leadX r = .panicked [{ v := errV r.2, recovered := false }] := by unfold leadX; rw [if_neg h]
set_option maxRecDepth 100000 in
set_option maxHeartbeats 4000000 in
theorem refuseLinks_c (D : Dt) (B : Nat) (w : World) (hD : DAt w D) (hF : D.fits) (h1 : few1 D) (hd : dist (nms D) (D.nz + D.nl)) (hM : MAt w B (nms D) (D.nz + D.nl)) :
    Calls Tryz.prog 64 #[D.v, .map (some B)] w fun e w' => e = left (if lnk1 D then lnk2 D else 4) ∧ Below w.heap.size w w' := by
  generalize hV : left (if lnk1 D then lnk2 D else 4) = V
  have HV := hideH hV
  have HD := hideH hD
  have HF := hideH hF
  have HI := hideH hd
  have HM := hideH hM
  have H1 := hideH h1
  obtain ⟨n1, n2, n3⟩ := h1
  clear hV hD hF hd hM
  go_enter Tryz.func64, Tryz.ntmps64
  go_wp2_with fail
  have HB0 : Hid (Below w.heap.size w (w.alloc (.cells #[.slice D.sa D.ns D.sc, .slice D.za D.nz D.zc, .slice D.la D.nl D.lc] 26))) := (Below.refl _ _).alloc (Nat.le_refl _) _
  have HC0 : Hid ((w.alloc (.cells #[.slice D.sa D.ns D.sc, .slice D.za D.nz D.zc, .slice D.la D.nl D.lc] 26)).heap[w.heap.size]? = some (.cells #[.slice D.sa D.ns D.sc, .slice D.za D.nz D.zc, .slice D.la D.nl D.lc] 26)) := World.alloc_heap_new _ _
  go_loopw [13] (fun x13 wr => ∃ j : Nat, j ≤ D.nl ∧ x13 = .int .i64 j ∧ Hid (Below w.heap.size w wr) ∧ Hid (wr.heap[w.heap.size]? = some (.cells #[.slice D.sa D.ns D.sc, .slice D.za D.nz D.zc, .slice D.la D.nl D.lc] 26)) ∧ Hid (∀ i, i < j → (idx D (D.ls i).tgt).isSome = true)) (fun x13 _ => D.nl - (intOf x13).toNat)
  case atStart => exact ⟨0, Nat.zero_le _, rfl, HB0, HC0, fun i hi => by omega⟩
  case round =>
    obtain ⟨j, hj, rfl, HW, HC, HA⟩ := hrel
    have hwl := hideH (Array.getElem?_eq_some_iff.1 HC.out).1
    by_cases hlt : j < D.nl
    · rcases (HD.out.on HW.out).links with h0 | ⟨b, off, hsa, hcs⟩
      · omega
      obtain ⟨c0, c1⟩ := hcs j hlt
      clear hcs
      have hkey := hideH (WideMaps.keyOf_string_mk (P := Tryz.prog) Tryz.underlying9 (HF.out.lto j hlt))
      have hb := hideH ((Below.refl _ wr).alloc (Nat.le_refl _) (.cells #[.string (D.ls j).nm, .string (D.ls j).tgt] 54))
      have HM2 := hideH (HM.out.on (bthen HW.out hb.out))
      have hh := idx_has (D := D) (s := (D.ls j).tgt)
      cases hix : (idx D (D.ls j).tgt).isSome
      · rw [hix] at hh
        have HX : Hid (V = .panicked [{ v := errV 4, recovered := false }]) := by
          show V = _
          rw [← HV.out, if_neg (fun h => by have := h j hlt; rw [hix] at this; cases this), left_no (by decide)]
        clear hix
        go_wp2_with (first
          | (at_lookup; refine wpList_lookup_own_ok_int _ rfl _ _ 76 rfl 9 3 .i64 law Tryz.underlying76 Tryz.underlying3 (zero_int _) B (D.nz + D.nl) (pm (nms D) (D.nz + D.nl)) rfl HM2.out _ _ rfl hkey.out ?_; intro c1 hat hwc; clear hat hwc)
          | (go_at_call 58; refine (refuse_t (by first | rfl | simp [hh]) _ _).mono ?_; rintro x w1 ⟨rfl, rfl⟩))
        exact ⟨rfl, HX.out.symm, bthen HW.out hb.out⟩
      · rw [hix] at hh
        have HA2 : Hid (∀ i, i < j + 1 → (idx D (D.ls i).tgt).isSome = true) := fun k hk => by
          rcases Nat.lt_or_ge k j with h | h
          · exact HA.out k h
          · obtain rfl : k = j := by omega
            exact hix
        clear hix
        go_wp2_with (first
          | (at_lookup; refine wpList_lookup_own_ok_int _ rfl _ _ 76 rfl 9 3 .i64 law Tryz.underlying76 Tryz.underlying3 (zero_int _) B (D.nz + D.nl) (pm (nms D) (D.nz + D.nl)) rfl HM2.out _ _ rfl hkey.out ?_; intro c1 hat hwc; clear hat hwc)
          | (go_at_call 58; refine (refuse_f (by first | rfl | simp [hh]) _ _).mono ?_; rintro x w1 ⟨rfl, rfl⟩))
        simp only [← hsa]
        go_roundw
        case rel => exact ⟨j + 1, by omega, by go_num, bthen HW.out hb.out, (hb.out.block _ hwl.out).trans HC.out, HA2⟩
        case measure => simp [intOf]; omega
    · have hcd : wr.cell? ⟨w.heap.size, 2, none⟩ = some (.slice D.la D.nl D.lc) := by simp [World.cell?, HC.out]
      go_wp2_with fail
      clear hcd
      go_loopw [31] (fun x31 v => ∃ k : Nat, k ≤ D.nl ∧ x31 = .int .i64 k ∧ Hid (Below w.heap.size w v) ∧ Hid (v.heap[w.heap.size]? = some (.cells #[.slice D.sa D.ns D.sc, .slice D.za D.nz D.zc, .slice D.la D.nl D.lc] 26)) ∧ Hid (∀ i, i < k → (leadK D (D.nl + 1) (D.ls i).nm).2 = 0)) (fun x31 _ => D.nl - (intOf x31).toNat)
      case atStart => exact ⟨0, Nat.zero_le _, rfl, HW, HC, fun i hi => by omega⟩
      case round =>
        obtain ⟨k, hk, rfl, HW2, HC2, HB⟩ := hrel
        have hwl2 := hideH (Array.getElem?_eq_some_iff.1 HC2.out).1
        by_cases hlk : k < D.nl
        · rcases (HD.out.on HW2.out).links with h0 | ⟨b, off, hsa, hcs⟩
          · omega
          obtain ⟨c0, c1⟩ := hcs k hlk
          clear hcs
          have hb := hideH ((Below.refl _ wr).alloc (Nat.le_refl _) (.cells #[.string (D.ls k).nm, .string (D.ls k).tgt] 54))
          have HW3 := hideH (bthen HW2.out hb.out)
          have HC3 := hideH ((hb.out.block _ hwl2.out).trans HC2.out)
          have hd0 : (wr.alloc (.cells #[.string (D.ls k).nm, .string (D.ls k).tgt] 54)).cell? ⟨w.heap.size, 0, none⟩ = some (.slice D.sa D.ns D.sc) := by simp only [World.cell?, HC3.out]; rfl
          have hd1 : (wr.alloc (.cells #[.string (D.ls k).nm, .string (D.ls k).tgt] 54)).cell? ⟨w.heap.size, 1, none⟩ = some (.slice D.za D.nz D.zc) := by simp only [World.cell?, HC3.out]; rfl
          have hd2 : (wr.alloc (.cells #[.string (D.ls k).nm, .string (D.ls k).tgt] 54)).cell? ⟨w.heap.size, 2, none⟩ = some (.slice D.la D.nl D.lc) := by simp only [World.cell?, HC3.out]; rfl
          have HDD := hideH (HD.out.on HW3.out)
          have HMM := hideH (HM.out.on HW3.out)
          have hsz := HF.out.lnm k hlk
          go_wp2_with fail
          simp only [← hsa]
          clear hsa c0 c1 hd0 hd1 hd2
          refine (lead_c D _ B _ HDD.out HF.out H1.out HI.out HMM.out hsz).mono ?_
          rintro e w4 ⟨he, hw4⟩
          have HW4 := hideH (bthen HW3.out hw4)
          have HC4 := hideH ((hw4.block _ (Array.getElem?_eq_some_iff.1 HC3.out).1).trans HC3.out)
          clear hw4
          rcases beq_cases (leadK D (D.nl + 1) (D.ls k).nm).2 0 with ⟨q1, q2⟩ | ⟨q1, q2⟩
          · rw [leadX_ok q2] at he
            subst he
            have HB2 : Hid (∀ i, i < k + 1 → (leadK D (D.nl + 1) (D.ls i).nm).2 = 0) := fun i hi => by
              rcases Nat.lt_or_ge i k with h | h
              · exact HB.out i h
              · obtain rfl : i = k := by omega
                exact q2
            clear q1 q2
            go_wp2_with fail
            go_roundw
            case rel => exact ⟨k + 1, by omega, by go_num, HW4, HC4, HB2⟩
            case measure => simp [intOf]; omega
          · rw [leadX_no q2] at he
            subst he
            have HX : Hid (V = .panicked [{ v := errV (leadK D (D.nl + 1) (D.ls k).nm).2, recovered := false }]) := by
              show V = _
              rw [← HV.out, if_pos (show lnk1 D from fun i hi => HA.out i (by omega)), show lnk2 D = _ from fstE_at (f := fun j => (leadK D (D.nl + 1) (D.ls j).nm).2) HB.out q2 hlk, left_no q2]
            clear q1 q2
            go_wp2_with fail
            exact ⟨rfl, HX.out.symm, HW4.out⟩
        · have HX : Hid (V = .returned (.tuple #[])) := by
            show V = _
            rw [← HV.out, if_pos (show lnk1 D from fun i hi => HA.out i (by omega)), show lnk2 D = 0 from fstE_zero (f := fun j => (leadK D (D.nl + 1) (D.ls j).nm).2) (fun i hi => HB.out i (by omega))]
            rfl
          go_wp2_with fail
          go_end0
          exact ⟨HX.out.symm, HW2.out⟩
end Go.Proofs.YtbpdbggojgijiaaGreatDoor

/- Contracts of slices.Grow (of no slice) and slices.Concat, for strings. -/
namespace Go.Proofs.YtbpdbggojgijiaaGreatDoor
open Go Go.RowKit
set_option linter.unusedVariables false

/-- an append whose run is known -/
theorem wpList_run {P : Program} {w w' : World} {ops : Array Oper} {rest : List Oper} {o : Oper} {a : Act} {Q : Exit → Act → World → Prop} (hgd : o.guard = none) (s x : Operand) (t u : TypeId) (ho : o.op = .call { callee := .builtin .append, args := #[s, x], argTypes := #[t, u] })
    (v1 v2 v : Value) (hs : a.eval s = v1) (hx : a.eval x = v2) (hrun : (Builtin.append_ #[t, u] o.type #[v1, v2]).run P w = .ok v w') (h : wpList P ops Q rest (a.put o.dst v) w') : wpList P ops Q (o :: rest) a w := by
  refine wpList_plain hgd fun K hK => ?_
  unfold Oper.wp
  simp [execOp, ho, resolve, invoke, builtin, hs, hx, hrun, Result.andThen]
  exact hK _ _ h
set_option maxHeartbeats 4000000 in
theorem Grow_c (n : Nat) (w : World) (hn : n ≤ 10000) : Calls Tryz.prog 74 #[.slice none 0 0, .int .i64 n] w fun e w' => ∃ v, e = .returned v ∧ w'.ownsRow w.heap.size 9 1 v 0 [] ∧ Below w.heap.size w w' := by
  obtain ⟨i0, hi, hz0, hz1, hz2⟩ := info_parts info_str
  by_cases h0 : n = 0
  · subst h0
    clear hi hz0 hz1 hz2
    go_enter Tryz.func74, Tryz.ntmps74
    go_wp2
    go_ret
    exact ⟨_, rfl, World.ownsRow_nil _ _ _ _, Below.refl _ _⟩
  · have hfit : Builtin.nextslicecap (0 + n) 0 * i0.bytes ≤ 281474976710656 := by
      rw [hz2]
      unfold Builtin.nextslicecap
      rw [if_pos (by omega)]; omega
    have hrz : ∀ ty, (Builtin.append_ #[57, 3] ty #[.slice none 0 0, .int .i64 n]).run Tryz.prog w = _ := fun ty =>
      Lib.run_append_grow_zeros w 57 3 ty 9 i0 (.string ⟨#[]⟩) .i64 .i64 Tryz.underlying57 Tryz.underlying3 hi hz0 none 0 0 [] (by rw [hz1]; exact run_firstCells_none w.drew 1 0 0 0) n (by omega) (by rw [hz1]; decide) (by omega) (by omega) (by rw [hz2]; omega) hfit
    simp only [Nat.zero_add] at hrz
    have hge := grownCap_ge w n 0 9
    have hle := grownCap_le_maxLen w n 0 9 (by unfold maxLen; omega)
    obtain ⟨G, hG⟩ : ∃ G, G = grownCap w n 0 9 := ⟨_, rfl⟩
    rw [← hG] at hge hle
    obtain ⟨cs, hcs⟩ : ∃ cs, cs = ([] : List Value).toArray ++ Builtin.zeroCells (Value.string ⟨#[]⟩).cells n ++ Builtin.zeroCells (Value.string ⟨#[]⟩).cells (G - n) := ⟨_, rfl⟩
    have hsz : cs.size = G * 1 := by rw [hcs]; simp [Builtin.zeroCells, Value.cells]; omega
    rw [← hG, ← hcs] at hrz
    have HS := hideH hsz
    have HL := hideH hle
    unfold maxLen at hle
    have HR := hideH hrz
    clear hi hz0 hz1 hz2 hfit hcs hsz hG hrz
    go_enter Tryz.func74, Tryz.ntmps74
    go_wp2_with (at_builtin; refine wpList_run rfl _ _ 57 3 rfl _ _ _ rfl rfl (HR.out _) ?_)
    go_ret
    exact ⟨_, rfl, World.ownsRow_made w.drew cs G (Nat.le_refl _) HL.out HS.out, (Below.refl _ _).drew.alloc (Nat.le_refl _) _⟩

/-- what stands in the first k lists -/
def catL (pn : Nat → Nat) (pf : Nat → Nat → ByteArray) : Nat → List ByteArray
  | 0 => []
  | k + 1 => catL pn pf k ++ (List.range (pn k)).map (pf k)
theorem catL_len (pn : Nat → Nat) (pf : Nat → Nat → ByteArray) (k : Nat) : (catL pn pf (k + 1)).length = (catL pn pf k).length + pn k := by simp [catL]
theorem catL_le (pn : Nat → Nat) (pf : Nat → Nat → ByteArray) (m : Nat) (h : ∀ i, i < m → pn i ≤ 100) : ∀ k, k ≤ m → (catL pn pf k).length ≤ k * 100
  | 0, _ => by simp [catL]
  | k + 1, hk => by rw [catL_len]; have := catL_le pn pf m h k (by omega); have := h k (by omega); omega

theorem p1_news {w : World} {ad : Addr} {n : Nat} {f : Nat → Value} (h : P1 w (some ad) n f) : ∀ j u, ((List.range n).map f)[j]? = some u → w.cell? (ad.add j) = some u := by
  intro j u hu
  have hj : j < n := by
    rcases Nat.lt_or_ge j n with h1 | h1
    · exact h1
    · rw [List.getElem?_eq_none (by simpa using h1)] at hu; cases hu
  rcases h with h0 | ⟨b, off, ha, hc⟩
  · omega
  · injection ha with ha
    subst ha
    have hadd : (⟨b, off, none⟩ : Addr).add j = ⟨b, off + j, none⟩ := by unfold Addr.add; split <;> simp_all
    rw [hadd, hc j hj, ← hu]
    simp [hj]
set_option maxRecDepth 100000 in
set_option maxHeartbeats 4000000 in
theorem Concat_c (gb m : Nat) (pa : Nat → Option Addr) (pn pc : Nat → Nat) (pf : Nat → Nat → ByteArray) (w : World) (hm : m ≤ 100)
    (hcell : ∀ i, i < m → w.cell? ⟨gb, i, none⟩ = some (.slice (pa i) (pn i) (pc i))) (hp : ∀ i, i < m → P1 w (pa i) (pn i) (fun j => .string (pf i j))) (hn : ∀ i, i < m → pn i ≤ 100) (hnil : ∀ i, i < m → pa i = none → pn i = 0 ∧ pc i = 0) :
    Calls Tryz.prog 57 #[.slice (some ⟨gb, 0, none⟩) m m] w fun e w' => ∃ v, e = .returned v ∧ w'.ownsRow w.heap.size 9 1 v (catL pn pf m).length ((catL pn pf m).map .string) ∧ Below w.heap.size w w' := by
  have HC := hideH hcell
  have HP := hideH hp
  have HN := hideH hn
  have HZ := hideH hnil
  have HLE := hideH (catL_le pn pf m hn)
  clear hcell hp hn hnil
  go_enter Tryz.func57, Tryz.ntmps57
  go_wp2_with fail
  go_loop [3, 11] (fun x3 x11 => ∃ k : Nat, k ≤ m ∧ x11 = .int .i64 k ∧ x3 = .int .i64 ((catL pn pf k).length : Nat)) (fun _ x11 => m - (intOf x11).toNat)
  case atStart => exact ⟨0, Nat.zero_le _, rfl, rfl⟩
  case round =>
    obtain ⟨k, hk, rfl, rfl⟩ := hrel
    have b1 := HLE.out k hk
    by_cases hlt : k < m
    · have c0 := HC.out k hlt
      have b2 := HN.out k hlt
      have hge : ¬ (((catL pn pf k).length : Nat) : Int) + (pn k : Int) < 0 := by omega
      have hln := catL_len pn pf k
      have HLN := hideH hln
      clear hln
      generalize (catL pn pf k).length = q at *
      go_wp2_with fail
      go_round
      case rel => exact ⟨k + 1, by omega, by go_num, by rw [HLN.out]; go_num⟩
      case measure => simp [intOf]; omega
    · obtain rfl : k = m := by omega
      generalize hq : (catL pn pf k).length = q at *
      have HQ := hideH hq
      clear hq
      obtain ⟨i0, hi, hz0, hz1, hz2⟩ := info_parts info_str
      go_wp2_with (go_at_call 74; refine (Grow_c q _ (by omega)).mono ?_; rintro e w1 ⟨v, rfl, ho, hb⟩)
      have HO := hideH ho
      have HB := hideH hb
      clear ho hb
      go_loopw [6, 27] (fun x6 x27 wr => ∃ i : Nat, i ≤ k ∧ x27 = .int .i64 i ∧ Hid (wr.ownsRow w.heap.size 9 1 x6 (catL pn pf i).length ((catL pn pf i).map .string)) ∧ Hid (Below w.heap.size w wr)) (fun _ x27 _ => k - (intOf x27).toNat)
      case atStart => exact ⟨0, Nat.zero_le _, rfl, HO, HB⟩
      case round =>
        obtain ⟨i, hi1, rfl, HO2, HW⟩ := hrel
        clear HO HB
        by_cases hli : i < k
        · have c0 := cell_on (HC.out i hli) HW.out
          have b3 := HLE.out i (by omega)
          have b2 := HN.out i hli
          have HPi := hideH ((HP.out i hli).on HW.out)
          have HZi := hideH (HZ.out i hli)
          have HLi := hideH (catL_len pn pf i)
          have HS := hideH (show (catL pn pf (i + 1)).map Value.string = (catL pn pf i).map Value.string ++ (List.range (pn i)).map (fun j => .string (pf i j)) from by simp [catL])
          generalize hqi : (catL pn pf i).length = qi at *
          generalize hai : pa i = ai at *
          clear hqi hai
          cases ai with
          | none =>
            obtain ⟨z1, z2⟩ := HZi.out rfl
            rw [z1, z2] at c0
            have HS2 : Hid ((catL pn pf (i + 1)).map Value.string = (catL pn pf i).map Value.string ∧ (catL pn pf (i + 1)).length = qi) := by
              refine ⟨?_, ?_⟩
              · rw [HS.out, z1]; simp
              · rw [HLi.out, z1]; rfl
            clear z1 z2
            go_wp2_with (at_builtin; refine wpList_append_own_none rfl _ _ 57 rfl w.heap.size 9 i0 1 Tryz.underlying57 hi _ _ _ rfl HO2.out rfl ?_)
            go_roundw
            case rel =>
              refine ⟨i + 1, by omega, by go_num, ?_, HW⟩
              show World.ownsRow _ _ _ _ _ _ _
              rw [HS2.out.1, HS2.out.2]; exact HO2.out
            case measure => simp [intOf]; omega
          | some ad =>
            have hbz := HW.out.size
            go_wp2_with (at_builtin; refine wpList_append_own _ rfl _ _ 57 rfl w.heap.size 9 i0 (.string ⟨#[]⟩) 1 16 Tryz.underlying57 hi hz0 hz1 hz2 rfl (by decide) _ _ _ rfl HO2.out ad (pn i) (pc i) ((List.range (pn i)).map (fun j => .string (pf i j))) rfl (by simp) (p1_news HPi.out) (by simp [Value.oneCell']) (by unfold maxLen; omega) (by omega) hbz ?_; intro v' w2 hown' hgrow _)
            go_roundw
            case rel =>
              refine ⟨i + 1, by omega, by go_num, ?_, ?_⟩
              · show World.ownsRow _ _ _ _ _ _ _
                rw [HS.out, HLi.out]; exact hown'
              · exact HW.out.grown hgrow hbz (fun g hg => (HO2.out.lt g hg).1)
            case measure => simp [intOf]; omega
        · obtain rfl : i = k := by omega
          go_wp2_with fail
          go_ret
          exact ⟨_, rfl, by rw [← HQ.out]; exact HO2.out, HW.out⟩
end Go.Proofs.YtbpdbggojgijiaaGreatDoor
