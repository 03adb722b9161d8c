/- The contract of refuseEras: a loop over zones, in it a loop over eras.Spans whose rounds may panic and write a variable. -/
import Derived.Test.YtdffopkljomipaaGreatDoorDataD
namespace Go.Proofs.YtdffopkljomipaaGreatDoor
open Go Go.RowKit Go.Shelf
set_option linter.unusedVariables false
attribute [local go_sem] Oper.semAt_some

/-- a zone's eras are right -/
abbrev zoneOK (D : Dt) (z : Zn) : Prop := (∀ i, i < z.n → ebnd (z.es i) D.ns = true ∧ frm z.es i < (z.es i).un) ∧ frm z.es z.n = 1893456000
abbrev ersOK (D : Dt) : Prop := ∀ j, j < D.nz → zoneOK D (D.zs j)
theorem ebnd_of {x : Er} {n : Int} (h : ebnd x n = true) : -50400 ≤ x.std ∧ x.std ≤ 50400 ∧ -1 ≤ x.set ∧ x.set < n ∧ 0 ≤ x.sv ∧ (0 ≤ x.set ∧ x.sv ≤ 0 ∨ x.set < 0 ∧ x.sv ≤ 7200) := by unfold ebnd at h; simpa using h

/-- between two zones -/
def EI (D : Dt) (w : World) (a : Act) (wr : World) : Prop := ∃ (j : Nat) (ds : List Deferred) (u3 u4 u5 u6 u11 u12 u13 u14 u15 u16 u17 u18 u19 u20 u21 u22 u23 u24 u25 u26 u27 u28 u29 u30 u31 u32 u33 u34 u35 u36 u37 : Value), j ≤ D.nz ∧
    a = { tmps := #[D.v, .pointer (some ⟨w.heap.size, 0, none⟩), undef, u3, u4, u5, u6, .pointer (some ⟨w.heap.size, 1, none⟩), .slice D.za D.nz D.zc, .int .i64 D.nz, .int .i64 j, u11, u12, u13, u14, u15, u16, u17, u18, u19, u20, u21, u22, u23, u24, u25, u26, u27, u28, u29, u30, u31, u32, u33, u34, u35, u36, u37], defers := ds } ∧
    Hid (Below w.heap.size w wr) ∧ Hid (wr.cell? ⟨w.heap.size, 0, none⟩ = some (.slice D.sa D.ns D.sc)) ∧ Hid (Marks w.heap.size wr.heap.size ds wr) ∧ Hid (∀ i, i < j → zoneOK D (D.zs i))
def EM (D : Dt) (a : Act) (_ : World) : Nat := D.nz - (intOf (a.tmps.getD 10 undef)).toNat

set_option maxRecDepth 100000 in
set_option maxHeartbeats 4000000 in
theorem refuseEras_c (D : Dt) (w : World) (hD : DAt w D) (hF : D.fits) : Calls Tryz.prog 64 #[D.v] w fun e w' => e = left (if ersOK D then 0 else 3) ∧ Below w.heap.size w w' := by
  have n2 := hF.nz
  have n1 := hF.ns
  unfold maxLen at n2 n1
  generalize hV : left (if ersOK D then 0 else 3) = V
  have HV := hideH hV
  have HD := hideH hD
  have HF := hideH hF
  clear hV hD hF
  refine calls_of_wpG Tryz.func64 rfl ?_
  simp only [Tryz.ntmps64, List.size_toArray, List.length_cons, List.length_nil, Nat.reduceAdd, Nat.reduceSub, Array.replicate_succ, Array.replicate_zero, List.push_toArray, List.append_toArray, List.nil_append, List.cons_append]
  refine wpG_seq (wpG_plain ?_)
  go_wp2
  refine wpG_seq (wpG_plain ?_)
  go_wp2
  have HB0 : Hid (Below w.heap.size w (w.alloc (.cells #[.slice D.sa D.ns D.sc, .slice D.za D.nz D.zc, .slice D.la D.nl D.lc] 26))) := (Below.refl _ _).alloc (Nat.le_refl _) _
  have HC0 : Hid ((w.alloc (.cells #[.slice D.sa D.ns D.sc, .slice D.za D.nz D.zc, .slice D.la D.nl D.lc] 26)).cell? ⟨w.heap.size, 0, none⟩ = some (.slice D.sa D.ns D.sc)) := by unfold Hid; simp
  refine wpG_block (wpG_loop (EI D w) (EM D) ?_ ?_)
  · exact ⟨0, [], _, _, _, _, _, _, _, _, _, _, _, _, _, _, _, _, _, _, _, _, _, _, _, _, _, _, _, _, _, _, _, Nat.zero_le _, rfl, HB0, HC0, trivial, fun i hi => by omega⟩
  · clear HB0 HC0
    rintro a wr ⟨j, ds, u3, u4, u5, u6, u11, u12, u13, u14, u15, u16, u17, u18, u19, u20, u21, u22, u23, u24, u25, u26, u27, u28, u29, u30, u31, u32, u33, u34, u35, u36, u37, hj, rfl, HW, HC, HK, HA⟩
    refine wpG_seq (wpG_plain ?_)
    by_cases hlt : j < D.nz
    · go_wp2
      refine wpG_seq (wpG_plain ?_)
      go_wp2
      refine wpG_seq (wpG_block (wpG_seq (wpG_plain ?_)))
      rcases (HD.out.on HW.out).zones with h0 | ⟨b, off, hsa, hcs⟩
      · omega
      obtain ⟨c0, c1⟩ := hcs j hlt
      clear hcs
      go_wp2
      clear c0 c1
      refine wpG_seq (wpG_plain ?_)
      go_wp2
      refine wpG_seq (wpG_seq (wpG_plain ?_))
      go_wp2_with (go_at_call 16; refine (Spans_c _ _ _ _).mono ?_; rintro e w1 ⟨rfl, rfl⟩)
      refine wpG_block ?_
      have her := hideH ((HD.out.on HW.out).eras j hlt)
      have hne := HF.out.zn j hlt
      have hwz : w.heap.size < wr.heap.size := cell_lt HC.out
      have hwr0 : Hid (Below wr.heap.size wr (((wr.alloc (.cells #[.string (D.zs j).nm, .slice (D.zs j).a (D.zs j).n (D.zs j).c] 48)).alloc (.cells #[.int .i64 0] 3)).alloc (.cells #[.slice (D.zs j).a (D.zs j).n (D.zs j).c] 46))) := (((Below.refl _ wr).alloc (Nat.le_refl _) _).alloc (by simp) _).alloc (by simp; omega) _
      have hbx0 : Hid (Boxed (((wr.alloc (.cells #[.string (D.zs j).nm, .slice (D.zs j).a (D.zs j).n (D.zs j).c] 48)).alloc (.cells #[.int .i64 0] 3)).alloc (.cells #[.slice (D.zs j).a (D.zs j).n (D.zs j).c] 46)) (wr.heap.size + 1) 3 (.int .i64 0)) := by
        have h1 := Boxed.new (wr.alloc (.cells #[.string (D.zs j).nm, .slice (D.zs j).a (D.zs j).n (D.zs j).c] 48)) 3 (.int .i64 0)
        rw [World.size_alloc] at h1
        exact h1.alloc _
      refine spans_p Tryz.func64 9 (wr.heap.size + 2) (D.zs j).n (D.zs j).c (D.zs j).a (D.zs j).es rfl rfl hne
        (fun k W => Below wr.heap.size wr W ∧ W.cell? ⟨wr.heap.size + 2, 0, none⟩ = some (.slice (D.zs j).a (D.zs j).n (D.zs j).c) ∧ Boxed W (wr.heap.size + 1) 3 (.int .i64 (frm (D.zs j).es k)) ∧ ∀ i, i < k → ebnd ((D.zs j).es i) D.ns = true ∧ frm (D.zs j).es i < ((D.zs j).es i).un)
        (fun _ _ => False)
        (fun ch W => ch = [{ v := errV 3, recovered := false }] ∧ Below wr.heap.size wr W ∧ ∃ i, i < (D.zs j).n ∧ ¬ (ebnd ((D.zs j).es i) D.ns = true ∧ frm (D.zs j).es i < ((D.zs j).es i).un))
        ?hI (fun _ _ _ h _ => h) ?hrd ?h0
        (fun k hb => { tmps := #[D.v, .pointer (some ⟨w.heap.size, 0, none⟩), undef, .pointer (some ⟨wr.heap.size, 0, none⟩), .pointer (some ⟨wr.heap.size + 1, 0, none⟩), .int .i64 (frm (D.zs j).es k), .pointer (some ⟨hb, 0, none⟩), .pointer (some ⟨w.heap.size, 1, none⟩), .slice (some ⟨b, off, none⟩) D.nz D.zc, .int .i64 D.nz, .int .i64 j, .bool true, .pointer (some ⟨b, off + j * 2, none⟩), .agg #[.string (D.zs j).nm, (D.zs j).sl],
          .pointer (some ⟨wr.heap.size, 1, none⟩), .slice (D.zs j).a (D.zs j).n (D.zs j).c, .func (.func 31) #[] #[.pointer (some ⟨wr.heap.size + 2, 0, none⟩)], .int .i64 (frm (D.zs j).es k), ((D.zs j).es k).v, u19, u20, u21, u22, u23, u24, u25, u26, u27, u28, u29, u30, u31, u32, u33, u34, u35, u36, u37], defers := [] })
        ?assign ?body ?done ?stop ?pan
      case hI =>
        rintro k W W' ⟨h1, h2, h3, h4⟩ hb
        have hs : wr.heap.size + 2 < (((wr.alloc (.cells #[.string (D.zs j).nm, .slice (D.zs j).a (D.zs j).n (D.zs j).c] 48)).alloc (.cells #[.int .i64 0] 3)).alloc (.cells #[.slice (D.zs j).a (D.zs j).n (D.zs j).c] 46)).heap.size := by simp
        exact ⟨h1.trans (hb.mono (by omega)), (hb.cell (p := ⟨wr.heap.size + 2, 0, none⟩) hs).trans h2, (hb.block _ (by omega)).trans h3, h4⟩
      case hrd =>
        rintro k W ⟨h1, h2, h3⟩
        exact ⟨h2, her.out.on h1⟩
      case h0 =>
        have hc := (Boxed.new ((wr.alloc (.cells #[.string (D.zs j).nm, .slice (D.zs j).a (D.zs j).n (D.zs j).c] 48)).alloc (.cells #[.int .i64 0] 3)) 46 (.slice (D.zs j).a (D.zs j).n (D.zs j).c)).cell
        simp only [World.size_alloc] at hc
        exact ⟨hwr0.out, hc, hbx0.out, fun i hi => by omega⟩
      case assign =>
        intro l k W K hk hK
        gi_wp2
        exact hK
      case body =>
        rintro l k hb W hk ⟨h1, h2, h3, h4⟩ hb1 hb2 ⟨e0, e1, e2, e3, e4⟩
        simp at hb1
        have hds := cell_on HC.out h1
        have H1 := hideH h1
        have H2 := hideH h2
        have H3 := hideH h3
        have H4 := hideH h4
        clear h1 h2 h3 h4 hwr0 hbx0
        have hbx := hideH (show EAt W hb 0 ((D.zs j).es k) from ⟨e0, e1, e2, e3, e4⟩)
        have hqq : (ebnd ((D.zs j).es k) D.ns = false) ∨ (ebnd ((D.zs j).es k) D.ns = true ∧ ((D.zs j).es k).un ≤ frm (D.zs j).es k) ∨ (ebnd ((D.zs j).es k) D.ns = true ∧ frm (D.zs j).es k < ((D.zs j).es k).un) := by
          cases ebnd ((D.zs j).es k) D.ns
          · exact .inl rfl
          · rcases Int.lt_or_le (frm (D.zs j).es k) ((D.zs j).es k).un with h | h
            · exact .inr (.inr ⟨rfl, h⟩)
            · exact .inr (.inl ⟨rfl, h⟩)
        rcases hqq with hq | ⟨hq, hq'⟩ | ⟨hq, hq'⟩
        · gi_wp2_with (first
            | (refine ⟨trivial, ?_⟩; gi_at_call 92; refine (CallsIn.inRound l (callsIn_wide.2 (dinBounds_c _ _ _))).mono ?_; rintro e W2 ⟨rfl, hw2⟩)
            | (refine ⟨trivial, ?_⟩; gi_at_call 51; refine (CallsIn.inRound l (callsIn_wide.2 (refuse_t (by first | rfl | simp [hq]) _ _))).mono ?_; rintro e W3 ⟨rfl, rfl⟩))
          exact ⟨rfl, Kept.of_below hw2, rfl, bthen H1.out hw2, k, hk, fun h => by rw [hq] at h; cases h.1⟩
        · gi_wp2_with (refine ⟨trivial, ?_⟩; gi_at_call 92; refine (CallsIn.inRound l (callsIn_wide.2 (dinBounds_c _ _ _))).mono ?_; rintro e W2 ⟨rfl, hw2⟩; have HW2 := hideH hw2; have hu := cell_on hbx.out.2.2.2.2 hw2; simp only [Nat.zero_add] at hu; clear hw2)
          refine ⟨trivial, ?_⟩
          refine (CallsIn.inRound l (callsIn_wide.2 (refuse_t rfl _ _))).mono ?_
          rintro e W3 ⟨rfl, rfl⟩
          exact ⟨rfl, Kept.of_below HW2.out, rfl, bthen H1.out HW2.out, k, hk, fun h => by have := h.2; omega⟩
        · gi_wp2_with (refine ⟨trivial, ?_⟩; gi_at_call 92; refine (CallsIn.inRound l (callsIn_wide.2 (dinBounds_c _ _ _))).mono ?_; rintro e W2 ⟨rfl, hw2⟩; have HW2 := hideH hw2; have hu := cell_on hbx.out.2.2.2.2 hw2; simp only [Nat.zero_add] at hu; clear hw2)
          refine ⟨trivial, ?_⟩
          refine (CallsIn.inRound l (callsIn_wide.2 (refuse_f (b := decide (((D.zs j).es k).un ≤ frm (D.zs j).es k)) (by simp; omega) _ _))).mono ?_
          rintro e W2 ⟨rfl, rfl⟩
          have hbe : Hid (Boxed W2 (wr.heap.size + 1) 3 (.int .i64 (frm (D.zs j).es k))) := (HW2.out.block _ H3.out.lt).trans H3.out
          have hce := hbe.out.cell
          have hfe := hbe.out.frozen
          gi_wp2
          refine ⟨(Kept.of_below HW2.out).trans (Kept.set _ (by simp) _), (bthen H1.out HW2.out).setCell (p := ⟨wr.heap.size + 1, 0, none⟩) (by simp) _, ?_, ?_, fun i hi => ?_⟩
          · rw [World.cell?_of_block (Below.heap_setCell _ _ _ _ (by simp))]
            exact cell_on H2.out HW2.out
          · exact hbe.out.set _
          · rcases Nat.lt_or_ge i k with h | h
            · exact H4.out i h
            · obtain rfl : i = k := by omega
              exact ⟨hq, hq'⟩
      case done =>
        rintro Dk W hDk ⟨h1, h2, h3, h4⟩ hk
        have hlW := (Array.getElem?_eq_some_iff.1 hk).1
        simp at hDk
        have hms := hideH (show Marks w.heap.size W.heap.size (mark Dk :: ds) W from ⟨Dk, rfl, by have := HW.out.size; omega, hlW, hk, (HK.out.on h1).up (by omega)⟩)
        have hce := h3.cell
        have H1 := hideH h1
        have H4 := hideH h4
        clear h1 h2 h3 h4 hk hwr0 hbx0
        show wpG _ _ _ _ _ _
        refine wpG_plain ?_
        rcases beq_cases (frm (D.zs j).es (D.zs j).n) 1893456000 with ⟨q1, q2⟩ | ⟨q1, q2⟩
        · go_wp2_with (go_at_call 51; refine (refuse_f (by first | rfl | simp [q2]) _ _).mono ?_; rintro e w1 ⟨rfl, rfl⟩)
          show wpG _ _ _ _ _ _
          refine wpG_plain ?_
          go_wp2
          refine ⟨⟨j + 1, mark Dk :: ds, _, _, _, _, _, _, _, _, _, _, _, _, _, _, _, _, _, _, _, _, _, _, _, _, _, _, _, _, _, _, _, by omega, by rw [hsa]; rfl, bthen HW.out H1.out, cell_on HC.out H1.out, hms, ?_⟩, ?_⟩
          · intro i hi
            rcases Nat.lt_or_ge i j with h | h
            · exact HA.out i h
            · obtain rfl : i = j := by omega
              exact ⟨H4.out, q2⟩
          · simp [EM, intOf]; omega
        · go_wp2_with (go_at_call 51; refine (refuse_t (by first | rfl | simp [q2]) _ _).mono ?_; rintro e w1 ⟨rfl, rfl⟩)
          show LeavesInM _ _ _ _ _ _ _ _ _
          refine hms.out.leaves (by simp) fun W' hw => ?_
          refine ⟨?_, (bthen HW.out H1.out).trans hw⟩
          rw [← HV.out, left_p (fun h => q2 (h j hlt).2) (by decide)]
      case stop => rintro D' c W _ h _; exact h.elim
      case pan =>
        rintro Dk ch W hDk ⟨rfl, h1, i, hi, hx⟩ hk
        have hlW := (Array.getElem?_eq_some_iff.1 hk).1
        simp at hDk
        have hms : Marks w.heap.size W.heap.size (mark Dk :: ds) W := ⟨Dk, rfl, by have := HW.out.size; omega, hlW, hk, (HK.out.on h1).up (by omega)⟩
        show LeavesInM _ _ _ _ _ _ _ _ _
        refine hms.leaves (by simp) fun W' hw => ?_
        refine ⟨?_, (bthen HW.out h1).trans hw⟩
        rw [← HV.out, left_p (fun h => hx ((h j hlt).1 i hi)) (by decide)]
    · go_wp2
      refine wpG_seq (wpG_plain ?_)
      go_wp2
      refine HK.out.leaves (by simp) fun W' hw => ?_
      refine ⟨_, results_none rfl _ _ _, ?_, HW.out.trans hw⟩
      rw [← HV.out]
      exact (left_q (p := ersOK D) (fun j' h => HA.out j' (by omega)) 3).symm
end Go.Proofs.YtdffopkljomipaaGreatDoor
