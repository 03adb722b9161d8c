/- Contracts of package names: patterns, Name. -/
import Derived.Test.YtfjjdicgekgbeaaGreatDoorNamesAAll
import Derived.Test.YtfjjdicgekgbeaaGreatDoorOffCAll
import Derived.Test.YtfjjdicgekgbeaaGreatDoorUsesKAll
import Derived.Test.YtfjjdicgekgbeaaGreatDoorBooksEAll
namespace Go.Proofs.YtfjjdicgekgbeaaGreatDoor
open Go Go.RowKit Go.Maps
set_option linter.unusedVariables false

/-- a way to call a zone -/
abbrev fE (f : Nat) (c : Value) : Value := .func (.func f) #[c] #[]
abbrev pt0 (f : Nat) (k : Int) (c : Value) (n : Nat) : MapEntry := { key := .int .i64 k, val := fE f c, born := n }
theorem pt_step {w W : World} {B cl : Nat} {es : Array MapEntry} {k : Int} {v : Value} {o : Obj} (hW : Below w.heap.size w W) (hB : B = w.heap.size + 1) (hb : W.heap[B]? = some (.map es cl)) (hc : W.heap[w.heap.size]? = some o) (hf : Instr.findNow (.int .i64) (.int .i64 k) es.toList 0 = some none) :
    ∃ W', (Instr.mapUpdate 102 (.map (some B)) (.int .i64 k) v).run Tryz.prog W = .ok () W' ∧ Below w.heap.size w W' ∧ W'.heap[B]? = some (.map (es.push { key := .int .i64 k, val := v, born := cl }) (cl + 1)) ∧ W'.heap[w.heap.size]? = some o := by
  refine ⟨_, upd_int (P := Tryz.prog) Tryz.underlying102 Tryz.underlying3 hb hf, setB_below hW (by omega), setB_heap hb, ?_⟩
  have : B ≠ w.heap.size := by omega
  simp [ChangeMaps.setBlock, this]
  exact hc
set_option maxRecDepth 100000 in
set_option maxHeartbeats 4000000 in
theorem patterns_n (p : Nat) (loc zn : ByteArray) (t : Int) (w : World) : Calls Tryz.prog 38 #[cv p loc zn t] w fun e w' => e = .returned (.map (some (w.heap.size + 1))) ∧ w'.heap[w.heap.size + 1]? = some (.map #[pt0 61 1 (cv p loc zn t) 0, pt0 62 2 (cv p loc zn t) 1, pt0 63 3 (cv p loc zn t) 2, pt0 64 4 (cv p loc zn t) 3] 4) ∧ Below w.heap.size w w' := by
  have bx := two_boxes w (cvC p loc zn t) (.map #[] 0)
  obtain ⟨W1, hW1⟩ : ∃ W1, W1 = (w.alloc (cvC p loc zn t)).alloc (.map #[] 0) := ⟨_, rfl⟩
  rw [← hW1] at bx
  obtain ⟨W2, u1, b2, m2, q2⟩ := pt_step (k := 1) (v := fE 61 (cv p loc zn t)) bx.1 rfl bx.2.2 bx.2.1 rfl
  obtain ⟨W3, u2, b3, m3, q3⟩ := pt_step (k := 2) (v := fE 62 (cv p loc zn t)) b2 rfl m2 q2 rfl
  obtain ⟨W4, u3, b4, m4, q4⟩ := pt_step (k := 3) (v := fE 63 (cv p loc zn t)) b3 rfl m3 q3 rfl
  obtain ⟨W5, u4, b5, m5, q5⟩ := pt_step (k := 4) (v := fE 64 (cv p loc zn t)) b4 rfl m4 q4 rfl
  have M5 := hideH m5
  have B5 := hideH b5
  obtain ⟨c0, c1, c2, c3⟩ := cells4n bx.2.1
  obtain ⟨d0, d1, d2, d3⟩ := cells4n q2
  obtain ⟨e0, e1, e2, e3⟩ := cells4n q3
  obtain ⟨f0, f1, f2, f3⟩ := cells4n q4
  have hmf : ∀ (fn : Fn) (first cap : Array Value) (w : World), (Instr.makeFunc fn first cap).run Tryz.prog w = .ok (.func fn first cap) w := fun _ _ _ _ => rfl
  have hmm : (Instr.makeMap 102 none).run Tryz.prog (w.alloc (cvC p loc zn t)) = .ok (.map (some (w.heap.size + 1))) W1 := by
    rw [hW1]; have := @run_makeMap Tryz.prog; rw [this]; simp
  clear bx q2 q3 q4 q5 m2 m3 m4 m5 b2 b3 b4 b5 hW1
  go_enter Tryz.func38, Tryz.ntmps38
  go_wp2_with fail
  go_ret
  exact ⟨rfl, M5.out, B5.out⟩
/-- Name's error, and its answer -/
def nmE (X : Wd) (loc zn : ByteArray) (t p : Int) : Int := if nchk X = 0 then (if 1 ≤ p ∧ p ≤ 4 then (if btE X.bs X.bn loc = 0 ∧ zonE X.D zn = 0 then (if 0 ≤ t ∧ t < 1893456000 then 0 else 3) else 4) else 8) else nchk X
def nmP (X : Wd) (loc zn : ByteArray) (t p : Int) : ByteArray := if p = 1 then nmOff X.D zn t else if p = 2 then nmId X.D zn else if p = 3 then nmName X loc zn t else nmCity X loc zn
def nmR (X : Wd) (loc zn : ByteArray) (t p : Int) : ByteArray := if nmE X loc zn t p = 0 then nmP X loc zn t p else ⟨#[]⟩
theorem nchk_ok {X : Wd} (h : nchk X = 0) : uchk X.D X.un X.us = 0 ∧ bchk X.bn X.bs = 0 := by
  unfold nchk at h
  split at h
  · rename_i h0; exact ⟨h0, h⟩
  · rename_i h0; exact absurd h h0
theorem tot_in {D : Dt} (hc : chkE D = 0) (s : ByteArray) (t : Int) : -50400 ≤ (atsR D s t).tot ∧ (atsR D s t).tot ≤ 57600 := by
  unfold atsR
  split
  · rename_i h0
    split
    · obtain ⟨k, hk, hkz⟩ := zonE_in h0
      rw [hk]
      have hlt := eraI_lt (es := (D.zs k).es) t ((chk_all hc).1.2.2 k hkz).1
      have hb := ebd (chk_era hc hkz hlt)
      change -50400 ≤ (offX D k t).std ∧ (offX D k t).std ≤ 50400 ∧ -1 ≤ (offX D k t).set ∧ (offX D k t).set < D.ns ∧ 0 ≤ (offX D k t).sv ∧ (0 ≤ (offX D k t).set ∧ (offX D k t).sv ≤ 0 ∨ (offX D k t).set < 0 ∧ (offX D k t).sv ≤ 7200) at hb
      have h2 := offS_in hc hkz t
      show -50400 ≤ (offX D k t).std + offS D k t ∧ (offX D k t).std + offS D k t ≤ 57600
      omega
    · unfold oZ; decide
  · unfold oZ; decide
theorem umt_12 {D : Dt} {n : Nat} {us : Nat → Us} (h : uchk D n us = 0) (s : ByteArray) (t : Int) : (umtR D n us s t).size ≤ 12 := by
  have hm := (uchk_ok h).2.2.1
  unfold umtR
  split
  · unfold metR
    split
    · rename_i j hj
      exact (nameB_12 (hm j (List.mem_range.1 (List.mem_of_find?_eq_some hj)))).2
    · decide
  · decide
abbrev ptEs (c : Value) : Array MapEntry := #[pt0 61 1 c 0, pt0 62 2 c 1, pt0 63 3 c 2, pt0 64 4 c 3]
theorem look_no_n {p : Int} (h : ¬ (1 ≤ p ∧ p ≤ 4)) (c : Value) (w : World) (B : Nat) (hB : w.heap[B]? = some (.map (ptEs c) 4)) :
    (Instr.lookup 102 (.map (some B)) (.int .i64 p) true).run Tryz.prog w = .ok (.tuple #[.nilFunc, .bool false]) w := by
  have e1 : (p == 1) = false := beq_eq_false_iff_ne.2 (by omega)
  have e2 : (p == 2) = false := beq_eq_false_iff_ne.2 (by omega)
  have e3 : (p == 3) = false := beq_eq_false_iff_ne.2 (by omega)
  have e4 : (p == 4) = false := beq_eq_false_iff_ne.2 (by omega)
  rw [look_int (r := none) Tryz.underlying102 Tryz.underlying3 hB (Tryz.zeroValue100 w) (by simp [Instr.findNow, Instr.sameNow, e1, e2, e3, e4])]
  rfl
theorem look_yes_n {p : Int} (h : 1 ≤ p ∧ p ≤ 4) : ∃ f : Nat, (f = 61 ∨ f = 62 ∨ f = 63 ∨ f = 64) ∧ (∀ (c : Value) (w : World) (B : Nat), w.heap[B]? = some (.map (ptEs c) 4) → (Instr.lookup 102 (.map (some B)) (.int .i64 p) true).run Tryz.prog w = .ok (.tuple #[fE f c, .bool true]) w) ∧
    ∀ (X : Wd) (b : Nat) (loc zn : ByteArray) (t : Int) (w : World), CEnv w X b zn → nchk X = 0 → zonE X.D zn = 0 → Calls Tryz.prog f #[cv b loc zn t] w fun e w' => e = .returned (.string (nmP X loc zn t p)) ∧ Below w.heap.size w w' := by
  have hc : p = 1 ∨ p = 2 ∨ p = 3 ∨ p = 4 := by omega
  rcases hc with rfl | rfl | rfl | rfl
  · refine ⟨61, by simp, fun c w B hB => ?_, fun X b loc zn t w hE hn hz => ?_⟩
    · rw [look_int (r := some (0, fE 61 c)) Tryz.underlying102 Tryz.underlying3 hB (Tryz.zeroValue100 w) rfl]; rfl
    · have := tot_in (uchk_ok (nchk_ok hn).1).1 zn t
      exact byOff_n X b loc zn t w hE (by omega)
  · refine ⟨62, by simp, fun c w B hB => ?_, fun X b loc zn t w hE hn hz => ?_⟩
    · rw [look_int (r := some (1, fE 62 c)) Tryz.underlying102 Tryz.underlying3 hB (Tryz.zeroValue100 w) rfl]; rfl
    · exact byID_n X b loc zn t w hE hz
  · refine ⟨63, by simp, fun c w B hB => ?_, fun X b loc zn t w hE hn hz => ?_⟩
    · rw [look_int (r := some (2, fE 63 c)) Tryz.underlying102 Tryz.underlying3 hB (Tryz.zeroValue100 w) rfl]; rfl
    · have := tot_in (uchk_ok (nchk_ok hn).1).1 zn t
      have h2 := umt_12 (nchk_ok hn).1 zn t
      exact byName_n X b loc zn t w hE (by omega) (by omega)
  · refine ⟨64, by simp, fun c w B hB => ?_, fun X b loc zn t w hE hn hz => ?_⟩
    · rw [look_int (r := some (3, fE 64 c)) Tryz.underlying102 Tryz.underlying3 hB (Tryz.zeroValue100 w) rfl]; rfl
    · exact byCity_n X b loc zn t w hE hz
set_option maxRecDepth 100000 in
set_option maxHeartbeats 4000000 in
theorem NName_c (X : Wd) (loc zn : ByteArray) (t p : Int) (w : World) (hE : NEnv w X) (hs : zn.size ≤ maxLen) : Calls Tryz.prog 20 #[X.v, .string loc, .string zn, .int .i64 t, .int .i64 p] w fun e w' => e = .returned (.tuple #[.string (nmR X loc zn t p), .int .i64 (nmE X loc zn t p)]) ∧ Below w.heap.size w w' := by
  have HE := hideH hE
  have HS := hideH hs
  have HB := hideH ((Below.refl _ w).alloc (Nat.le_refl _) (.cells X.cs 30))
  have HC := hideH (World.alloc_heap_new w (.cells X.cs 30))
  have HN := hideH (fun v (hv : Below w.heap.size w v) => NCheck_c X v (HE.out.on hv))
  obtain ⟨c0, c1, c2, c3, c4⟩ := cells5n HC.out
  obtain ⟨E, hEE⟩ : ∃ E, E = nmE X loc zn t p := ⟨_, rfl⟩
  obtain ⟨R, hR⟩ : ∃ R, R = nmR X loc zn t p := ⟨_, rfl⟩
  rw [← hEE, ← hR]
  have HEE := hideH hEE
  have HRR := hideH hR
  unfold nmE at HEE
  unfold nmR at HRR
  rw [← hEE] at HRR
  clear hEE hR hE hs
  by_cases hn : nchk X = 0
  · rw [hn, if_pos rfl] at HEE
    rw [hn] at HN
    by_cases hp : 1 ≤ p ∧ p ≤ 4
    · rw [if_pos hp] at HEE
      obtain ⟨f, hff, hlk, hcl⟩ := look_yes_n hp
      have HFF := hideH hff
      have HL := hideH hlk
      have HF := hideH (fun v h1 h2 => hcl X w.heap.size loc zn t v h1 hn h2)
      clear hcl hlk hn hp hff
      have HLc := hideH (fun v h1 => isLocaleN_c X w.heap.size loc zn t v h1)
      have HZo := hideH (fun v h1 => isZoneN_c X w.heap.size loc zn t v h1)
      go_enter Tryz.func20, Tryz.ntmps20
      go_wp2_with fail
      refine (HN.out _ HB.out).mono ?_
      rintro e w1 ⟨rfl, hw1⟩
      have H1 := hideH (bthen HB.out hw1)
      have C1 := hideH (heap_on HC.out hw1)
      clear hw1 HB HC c0 c1 c2 c3 c4
      have b2 := (Below.refl _ w1).alloc (Nat.le_refl _) (cvC w.heap.size loc zn t)
      have D2 := hideH (World.alloc_heap_new w1 (cvC w.heap.size loc zn t))
      obtain ⟨d0, d1, d2, d3⟩ := cells4n D2.out
      have H2 := hideH (bthen H1.out b2)
      have C2 := hideH (heap_on C1.out b2)
      clear b2
      go_wp2_with fail
      refine (patterns_n w.heap.size loc zn t _).mono ?_
      rintro e w3 ⟨rfl, hm3, hw3⟩
      have H3 := hideH (bthen H2.out hw3)
      have C3 := hideH (heap_on C2.out hw3)
      have D3 := hideH (heap_on D2.out hw3)
      clear H1 H2 C1 C2 D2 d0 d1 d2 d3 hw3
      have hlk := HL.out _ _ _ hm3
      simp only [World.size_alloc] at hlk
      clear hm3
      obtain ⟨d0, d1, d2, d3⟩ := cells4n D3.out
      go_wp2_with fail
      refine (HLc.out _ ⟨HE.out.on H3.out, C3.out, HS.out⟩).mono ?_
      rintro e w4 ⟨rfl, hw4⟩
      have H4 := hideH (bthen H3.out hw4)
      have C4 := hideH (heap_on C3.out hw4)
      have D4 := hideH (heap_on D3.out hw4)
      clear H3 C3 D3 d0 d1 d2 d3 hw4 hlk
      generalize btE X.bs X.bn loc = be at *
      rcases beq_cases be 0 with ⟨q1, q2⟩ | ⟨q1, q2⟩
      · subst q2
        clear q1
        obtain ⟨d0, d1, d2, d3⟩ := cells4n D4.out
        go_wp2_with fail
        refine (HZo.out _ ⟨HE.out.on H4.out, C4.out, HS.out⟩).mono ?_
        rintro e w5 ⟨rfl, hw5⟩
        have H5 := hideH (bthen H4.out hw5)
        have C5 := hideH (heap_on C4.out hw5)
        clear H4 C4 D4 d0 d1 d2 d3 hw5
        generalize hze : zonE X.D zn = ze at *
        rcases beq_cases ze 0 with ⟨q1, q2⟩ | ⟨q1, q2⟩
        · subst q2
          clear q1
          have hq : t < 0 ∨ (0 ≤ t ∧ 1893456000 ≤ t) ∨ (0 ≤ t ∧ t < 1893456000) := by omega
          rcases hq with hq | ⟨h1, h2⟩ | ⟨h1, h2⟩
          · rw [if_pos (by simp), if_neg (by omega)] at HEE
            rw [HEE.out, if_neg (by decide)] at HRR
            clear hze
            go_wp2_with fail
            go_ret2
            exact ⟨by rw [HRR.out, HEE.out] <;> rfl, H5.out⟩
          · rw [if_pos (by simp), if_neg (by omega)] at HEE
            rw [HEE.out, if_neg (by decide)] at HRR
            clear hze
            go_wp2_with fail
            go_ret2
            exact ⟨by rw [HRR.out, HEE.out] <;> rfl, H5.out⟩
          · rw [if_pos (by simp), if_pos ⟨h1, h2⟩] at HEE
            rw [HEE.out, if_pos rfl] at HRR
            rw [← HRR.out] at HF
            clear hze
            rcases HFF.out with rfl | rfl | rfl | rfl
            all_goals
              go_wp2_with fail
              refine (HF.out _ ⟨HE.out.on H5.out, C5.out, HS.out⟩ (by trivial)).mono ?_
              rintro e w6 ⟨rfl, hw6⟩
              go_wp2_with fail
              go_ret2
              exact ⟨by rw [HEE.out] <;> rfl, bthen H5.out hw6⟩
        · rw [if_neg (fun h => q2 h.2)] at HEE
          rw [HEE.out, if_neg (by decide)] at HRR
          clear hze q2
          go_wp2_with fail
          go_ret2
          exact ⟨by rw [HRR.out, HEE.out] <;> rfl, H5.out⟩
      · rw [if_neg (fun h => q2 h.1)] at HEE
        rw [HEE.out, if_neg (by decide)] at HRR
        clear q2
        go_wp2_with fail
        go_ret2
        exact ⟨by rw [HRR.out, HEE.out] <;> rfl, H4.out⟩
    · rw [if_neg hp] at HEE
      rw [HEE.out, if_neg (by decide)] at HRR
      have HL := hideH (look_no_n hp)
      clear hn hp
      go_enter Tryz.func20, Tryz.ntmps20
      go_wp2_with fail
      refine (HN.out _ HB.out).mono ?_
      rintro e w1 ⟨rfl, hw1⟩
      have H1 := hideH (bthen HB.out hw1)
      have C1 := hideH (heap_on HC.out hw1)
      clear hw1 HB HC c0 c1 c2 c3 c4
      have b2 := (Below.refl _ w1).alloc (Nat.le_refl _) (cvC w.heap.size loc zn t)
      have D2 := hideH (World.alloc_heap_new w1 (cvC w.heap.size loc zn t))
      obtain ⟨d0, d1, d2, d3⟩ := cells4n D2.out
      have H2 := hideH (bthen H1.out b2)
      have C2 := hideH (heap_on C1.out b2)
      clear b2
      go_wp2_with fail
      refine (patterns_n w.heap.size loc zn t _).mono ?_
      rintro e w3 ⟨rfl, hm3, hw3⟩
      have H3 := hideH (bthen H2.out hw3)
      have C3 := hideH (heap_on C2.out hw3)
      have D3 := hideH (heap_on D2.out hw3)
      clear H1 H2 C1 C2 D2 d0 d1 d2 d3 hw3
      have hlk := HL.out _ _ _ hm3
      simp only [World.size_alloc] at hlk
      clear hm3
      obtain ⟨d0, d1, d2, d3⟩ := cells4n D3.out
      go_wp2_with fail
      go_ret2
      exact ⟨by rw [HRR.out, HEE.out] <;> rfl, H3.out⟩
  · have hne : (nchk X != 0) = true := by rw [bne_iff_ne]; exact hn
    rw [if_neg hn] at HEE
    rw [HEE.out, if_neg hn] at HRR
    generalize nchk X = nc at *
    clear hn
    go_enter Tryz.func20, Tryz.ntmps20
    go_wp2_with fail
    refine (HN.out _ HB.out).mono ?_
    rintro e w1 ⟨rfl, hw1⟩
    have H1 := hideH (bthen HB.out hw1)
    clear hw1
    go_wp2_with fail
    go_ret2
    exact ⟨by rw [HRR.out, HEE.out] <;> rfl, H1.out⟩
end Go.Proofs.YtfjjdicgekgbeaaGreatDoor

/- The statements' own world: globe; what namesBegun asks. -/
namespace Go.Proofs.YtfjjdicgekgbeaaGreatDoor
open Go Go.RowKit Go.Maps
set_option linter.unusedVariables false

def glb (r b u k l s : Nat) : Wd := ⟨eu r b (-1) old, some ⟨u, 0, none⟩, 2, 2, cl, some ⟨s, 0, none⟩, 2, 2, shf k l (-1)⟩
abbrev glV (b u s : Nat) : Value := .agg #[.slice (some ⟨b, 0, none⟩) 1 1, .slice (some ⟨b + 3, 0, none⟩) 2 2, .slice (some ⟨b + 4, 0, none⟩) 2 2, .slice (some ⟨u, 0, none⟩) 2 2, .slice (some ⟨s, 0, none⟩) 2 2]
theorem glb_env {w : World} {r b u k l s : Nat} (hL : Laid w) (hM : Mx w) (hD : DAt w (eu r b (-1) old)) (hU : w.heap[u]? = some clC) (hS : SAt w k l s (-1)) : NEnv w (glb r b u k l s) :=
  ⟨eu_env ⟨hL, hM, hD⟩ (cl_at hU) (fun j _ => cl_fits j), by show 2 ≤ maxLen; unfold maxLen; omega, Nat.le_refl _, hS.books, fun j _ => shf_fits k l (.inl rfl) j⟩
theorem five_set {w : World} {b : Nat} {c0 c1 c2 c3 c4 x y z u v : Value} {t : TypeId} (h : w.heap[b]? = some (.cells #[c0, c1, c2, c3, c4] t)) : (((((w.setCell ⟨b, 0, none⟩ x).setCell ⟨b, 1, none⟩ y).setCell ⟨b, 2, none⟩ z).setCell ⟨b, 3, none⟩ u).setCell ⟨b, 4, none⟩ v).heap[b]? = some (.cells #[x, y, z, u, v] t) :=
  setCell_at (setCell_at (setCell_at (setCell_at (setCell_at h _) _) _) _) _
theorem frz5 {w : World} {b : Nat} {cs : Array Value} {t : TypeId} (h : w.heap[b]? = some (.cells cs t)) (o : Nat) : w.frozen? ⟨b, o, none⟩ = false := by simp [World.frozen?, h]
abbrev wdZ : Obj := .cells #[.slice none 0 0, .slice none 0 0, .slice none 0 0, .slice none 0 0, .slice none 0 0] 30
/-- is it a slice -/
def isS : Value → Bool
  | .slice _ _ _ => true
  | _ => false
/-- block q holds slices only -/
def Zq (w : World) (q : Nat) : Prop := ∀ o v, w.cell? ⟨q, o, none⟩ = some v → isS v = true
/-- nothing but block q differs -/
def Oq (w w' : World) (q : Nat) : Prop := ∀ b, b ≠ q → ∀ o, w'.cell? ⟨b, o, none⟩ = w.cell? ⟨b, o, none⟩
theorem Zq.ne {w : World} {q b o : Nat} {v : Value} (h : Zq w q) (hc : w.cell? ⟨b, o, none⟩ = some v) (hv : isS v = false) : b ≠ q := by
  rintro rfl
  rw [h o v hc] at hv
  cases hv
theorem wdZ_q {w : World} {q : Nat} (h : w.heap[q]? = some wdZ) : Zq w q := by
  intro o v hv
  have : o = 0 ∨ o = 1 ∨ o = 2 ∨ o = 3 ∨ o = 4 ∨ 5 ≤ o := by omega
  rcases this with rfl | rfl | rfl | rfl | rfl | h5
  · simp [World.cell?, h] at hv; rw [← hv]; rfl
  · simp [World.cell?, h] at hv; rw [← hv]; rfl
  · simp [World.cell?, h] at hv; rw [← hv]; rfl
  · simp [World.cell?, h] at hv; rw [← hv]; rfl
  · simp [World.cell?, h] at hv; rw [← hv]; rfl
  · simp [World.cell?, h] at hv
    rw [List.getElem?_eq_none (by simpa using h5)] at hv
    cases hv
theorem P2.off {w w' : World} {q : Nat} {a : Option Addr} {n : Nat} {f g : Nat → Value} (hz : Zq w q) (ho : Oq w w' q) (hf : ∀ j, isS (f j) = false) (h : P2 w a n f g) : P2 w' a n f g := by
  rcases h with h | ⟨b, off, h1, h2⟩
  · exact .inl h
  · refine .inr ⟨b, off, h1, fun j hj => ?_⟩
    have hb := hz.ne (h2 j hj).1 (hf j)
    rw [ho b hb, ho b hb]; exact h2 j hj
theorem P3.off {w w' : World} {q : Nat} {a : Option Addr} {n : Nat} {f g u : Nat → Value} (hz : Zq w q) (ho : Oq w w' q) (hf : ∀ j, isS (f j) = false) (h : P3 w a n f g u) : P3 w' a n f g u := by
  rcases h with h | ⟨b, off, h1, h2⟩
  · exact .inl h
  · refine .inr ⟨b, off, h1, fun j hj => ?_⟩
    have hb := hz.ne (h2 j hj).1 (hf j)
    rw [ho b hb, ho b hb, ho b hb]; exact h2 j hj
theorem ARow.off {w w' : World} {q : Nat} {a : Option Addr} {n c : Nat} {rs : Nat → Rl} (hz : Zq w q) (ho : Oq w w' q) (h : ARow w a n c rs) : ARow w' a n c rs := by
  rcases h with h | ⟨b, off, h1, h2⟩
  · exact .inl h
  · refine .inr ⟨b, off, h1, fun j hj => ?_⟩
    have h3 := h2 j hj
    have hb := hz.ne h3.1 rfl
    unfold RAt at h3 ⊢
    simp only [ho b hb]
    exact h3
theorem ERow.off {w w' : World} {q : Nat} {a : Option Addr} {n : Nat} {es : Nat → Er} (hz : Zq w q) (ho : Oq w w' q) (h : ERow w a n es) : ERow w' a n es := by
  rcases h with h | ⟨b, off, h1, h2⟩
  · exact .inl h
  · refine .inr ⟨b, off, h1, fun j hj => ?_⟩
    have h3 := h2 j hj
    have hb := hz.ne h3.1 rfl
    unfold EAt at h3 ⊢
    simp only [ho b hb]
    exact h3
theorem DAt.off {w w' : World} {q : Nat} {D : Dt} (hz : Zq w q) (ho : Oq w w' q) (h : DAt w D) : DAt w' D :=
  ⟨h.sets.off hz ho (fun _ => rfl), fun j hj => (h.rules j hj).off hz ho, h.zones.off hz ho (fun _ => rfl), fun j hj => (h.eras j hj).off hz ho, h.links.off hz ho (fun _ => rfl)⟩
theorem UAt.off {w w' : World} {q : Nat} {a : Option Addr} {n : Nat} {us : Nat → Us} (hz : Zq w q) (ho : Oq w w' q) (h : UAt w a n us) : UAt w' a n us := by
  rcases h with h | ⟨b, off, h1, h2⟩
  · exact .inl h
  · refine .inr ⟨b, off, h1, fun j hj => ?_⟩
    have h3 := h2 j hj
    have hb := hz.ne h3.1 rfl
    simp only [ho b hb]
    exact h3
theorem BAt.off {w w' : World} {q : Nat} {a : Option Addr} {n : Nat} {bs : Nat → Bk} (hz : Zq w q) (ho : Oq w w' q) (h : BAt w a n bs) : BAt w' a n bs :=
  ⟨h.rows.off hz ho (fun _ => rfl), fun j hj => P2.off hz ho (fun _ => rfl) (h.prs j hj)⟩
theorem Oq.five {w : World} {q : Nat} {x y z u v : Value} : Oq w (((((w.setCell ⟨q, 0, none⟩ x).setCell ⟨q, 1, none⟩ y).setCell ⟨q, 2, none⟩ z).setCell ⟨q, 3, none⟩ u).setCell ⟨q, 4, none⟩ v) q := by
  intro b hb o
  rw [cso_n (by exact hb), cso_n (by exact hb), cso_n (by exact hb), cso_n (by exact hb), cso_n (by exact hb)]
set_option maxRecDepth 100000 in
set_option maxHeartbeats 4000000 in
theorem globe_c (w : World) (hL : Laid w) (hM : Mx w) : Calls Tryz.prog 17 #[] w fun e w' => ∃ r b u k l s, e = .returned (glV b u s) ∧ NEnv w' (glb r b u k l s) ∧ Below w.heap.size w w' := by
  have HL := hideH hL
  have HM := hideH hM
  clear hL hM
  have H0 := hideH ((Below.refl _ w).alloc (Nat.le_refl _) wdZ)
  have Z0 := hideH (World.alloc_heap_new w wdZ)
  go_enter Tryz.func17, Tryz.ntmps17
  go_wp2_with fail
  refine (europe_x _).mono ?_
  rintro e a1 ⟨r, b, rfl, d1, -, -, hw, -, -⟩
  have H0 := hideH (bthen H0.out hw)
  have Z0 := hideH (heap_on Z0.out hw)
  have D1 := hideH d1
  clear hw d1
  go_wp2_with fail
  refine (called_c _).mono ?_
  rintro e a2 ⟨rfl, hx, hw⟩
  have H0 := hideH (bthen H0.out hw)
  have Z0 := hideH (heap_on Z0.out hw)
  have D1 := hideH (D1.out.on hw)
  have U1 := hideH hx
  clear hw hx
  go_wp2_with fail
  refine (shelf_c _).mono ?_
  rintro e a3 ⟨k, l, s, rfl, hS, hw, -, -, -⟩
  have H0 := hideH (bthen H0.out hw)
  have Z0 := hideH (heap_on Z0.out hw)
  have D1 := hideH (D1.out.on hw)
  have U1 := hideH (heap_on U1.out hw)
  have S1 := hideH hS
  clear hw hS
  obtain ⟨z0, z1, z2, z3, z4⟩ := cells5n Z0.out
  have y0 := frz5 Z0.out 0
  have y1 := frz5 Z0.out 1
  have y2 := frz5 Z0.out 2
  have y3 := frz5 Z0.out 3
  have y4 := frz5 Z0.out 4
  have HN := hideH (glb_env (HL.out.on H0.out) (HM.out.on H0.out) D1.out U1.out S1.out)
  go_wp2_with fail
  refine bodyPost_ret (v := glV b a1.heap.size s) ?_ rfl ⟨r, b, a1.heap.size, k, l, s, rfl, ?_, ?_⟩
  · have q0 := five_set (x := .slice (some ⟨b, 0, none⟩) 1 1) (y := .slice (some ⟨b + 3, 0, none⟩) 2 2) (z := .slice (some ⟨b + 4, 0, none⟩) 2 2) (u := .slice (some ⟨a1.heap.size, 0, none⟩) 2 2) (v := .slice (some ⟨s, 0, none⟩) 2 2) Z0.out
    obtain ⟨g0, g1, g2, g3, g4⟩ := cells5n q0
    simp [results, Tryz.results17, go_sem, g0, g1, g2, g3, g4]
  · have hz := wdZ_q Z0.out
    have hb : Below w.heap.size w _ := ((((H0.out.setCell (p := ⟨w.heap.size, 0, none⟩) (Nat.le_refl _) (.slice (some ⟨b, 0, none⟩) 1 1)).setCell (p := ⟨w.heap.size, 1, none⟩) (Nat.le_refl _) (.slice (some ⟨b + 3, 0, none⟩) 2 2)).setCell (p := ⟨w.heap.size, 2, none⟩) (Nat.le_refl _) (.slice (some ⟨b + 4, 0, none⟩) 2 2)).setCell (p := ⟨w.heap.size, 3, none⟩) (Nat.le_refl _) (.slice (some ⟨a1.heap.size, 0, none⟩) 2 2)).setCell (p := ⟨w.heap.size, 4, none⟩) (Nat.le_refl _) (.slice (some ⟨s, 0, none⟩) 2 2)
    obtain ⟨⟨⟨_, _, hd⟩, h1, h2, h3, h4, h5⟩, h6, h7, h8, h9⟩ := HN.out
    exact ⟨⟨⟨HL.out.on hb, HM.out.on hb, hd.off hz Oq.five⟩, h1, h2, h3, h4.off hz Oq.five, h5⟩, h6, h7, h8.off hz Oq.five, h9⟩
  · exact ((((H0.out.setCell (p := ⟨w.heap.size, 0, none⟩) (Nat.le_refl _) (.slice (some ⟨b, 0, none⟩) 1 1)).setCell (p := ⟨w.heap.size, 1, none⟩) (Nat.le_refl _) (.slice (some ⟨b + 3, 0, none⟩) 2 2)).setCell (p := ⟨w.heap.size, 2, none⟩) (Nat.le_refl _) (.slice (some ⟨b + 4, 0, none⟩) 2 2)).setCell (p := ⟨w.heap.size, 3, none⟩) (Nat.le_refl _) (.slice (some ⟨a1.heap.size, 0, none⟩) 2 2)).setCell (p := ⟨w.heap.size, 4, none⟩) (Nat.le_refl _) (.slice (some ⟨s, 0, none⟩) 2 2)
set_option maxRecDepth 100000 in
theorem gn1 (r b u k l s : Nat) : nmR (glb r b u k l s) ⟨#[120, 120]⟩ ⟨#[84]⟩ 1585443600 3 = ⟨#[77, 68, 84]⟩ ∧ nmE (glb r b u k l s) ⟨#[120, 120]⟩ ⟨#[84]⟩ 1585443600 3 = 0 := ⟨by kernel_rfl, by kernel_rfl⟩
set_option maxRecDepth 100000 in
theorem gn2 (r b u k l s : Nat) : nmR (glb r b u k l s) ⟨#[120, 120]⟩ ⟨#[84]⟩ 1585443599 3 = ⟨#[109, 115, 116]⟩ ∧ nmE (glb r b u k l s) ⟨#[120, 120]⟩ ⟨#[84]⟩ 1585443599 3 = 0 := ⟨by kernel_rfl, by kernel_rfl⟩
set_option maxRecDepth 100000 in
theorem gn3 (r b u k l s : Nat) : nmR (glb r b u k l s) ⟨#[120, 120]⟩ ⟨#[84]⟩ 7 3 = ⟨#[71, 77, 84, 43, 48, 58, 51, 48]⟩ ∧ nmE (glb r b u k l s) ⟨#[120, 120]⟩ ⟨#[84]⟩ 7 3 = 0 := ⟨by kernel_rfl, by kernel_rfl⟩
set_option maxRecDepth 100000 in
theorem gn4 (r b u k l s : Nat) : nmR (glb r b u k l s) ⟨#[114, 111, 111, 116]⟩ ⟨#[84, 111, 119, 110]⟩ 7 4 = ⟨#[79, 108, 100, 32, 84, 111, 119, 110]⟩ ∧ nmE (glb r b u k l s) ⟨#[114, 111, 111, 116]⟩ ⟨#[84, 111, 119, 110]⟩ 7 4 = 0 := ⟨by kernel_rfl, by kernel_rfl⟩
set_option maxRecDepth 100000 in
theorem gn5 (r b u k l s : Nat) : nmR (glb r b u k l s) ⟨#[120, 120]⟩ ⟨#[65, 47, 87, 101, 115, 116]⟩ 7 4 = ⟨#[87, 101, 115, 116]⟩ ∧ nmE (glb r b u k l s) ⟨#[120, 120]⟩ ⟨#[65, 47, 87, 101, 115, 116]⟩ 7 4 = 0 := ⟨by kernel_rfl, by kernel_rfl⟩
set_option maxRecDepth 100000 in
theorem gn6 (r b u k l s : Nat) : nmR (glb r b u k l s) ⟨#[114, 111, 111, 116]⟩ ⟨#[65, 47, 87, 101, 115, 116]⟩ 7 1 = ⟨#[71, 77, 84, 45, 52]⟩ ∧ nmE (glb r b u k l s) ⟨#[114, 111, 111, 116]⟩ ⟨#[65, 47, 87, 101, 115, 116]⟩ 7 1 = 0 := ⟨by kernel_rfl, by kernel_rfl⟩
set_option maxRecDepth 100000 in
theorem gn7 (r b u k l s : Nat) : nmR (glb r b u k l s) ⟨#[114, 111, 111, 116]⟩ ⟨#[84]⟩ 7 5 = ⟨#[]⟩ ∧ nmE (glb r b u k l s) ⟨#[114, 111, 111, 116]⟩ ⟨#[84]⟩ 7 5 = 8 := ⟨by kernel_rfl, by kernel_rfl⟩
set_option maxRecDepth 100000 in
theorem gn_chk (r b u k l s : Nat) : nchk (glb r b u k l s) = 0 := by kernel_rfl
set_option maxRecDepth 100000 in
theorem gn_city : ctB ⟨#[65, 47, 98, 95, 99, 47, 100, 95, 101]⟩ = ⟨#[100, 32, 101]⟩ ∧ ctE ⟨#[65, 47, 98, 95, 99, 47, 100, 95, 101]⟩ = 0 := ⟨by kernel_rfl, by kernel_rfl⟩
theorem glN (r b u k l s : Nat) (loc zn : ByteArray) (t p : Int) (R : ByteArray) (E : Int) (w : World) (hE : NEnv w (glb r b u k l s)) (hs : zn.size ≤ 10) (h : nmR (glb r b u k l s) loc zn t p = R ∧ nmE (glb r b u k l s) loc zn t p = E) :
    Calls Tryz.prog 20 #[glV b u s, .string loc, .string zn, .int .i64 t, .int .i64 p] w fun e w' => e = .returned (.tuple #[.string R, .int .i64 E]) ∧ Below w.heap.size w w' := by
  have := NName_c (glb r b u k l s) loc zn t p w hE (by unfold maxLen; omega)
  rw [h.1, h.2] at this
  exact this
theorem glC (r b u k l s : Nat) (w : World) (hE : NEnv w (glb r b u k l s)) : Calls Tryz.prog 37 #[glV b u s] w fun e w' => e = .returned (.int .i64 0) ∧ Below w.heap.size w w' := by
  have := NCheck_c (glb r b u k l s) w hE
  rw [gn_chk] at this
  exact this
theorem glT (w : World) (hM : Mx w) : Calls Tryz.prog 104 #[.string ⟨#[65, 47, 98, 95, 99, 47, 100, 95, 101]⟩] w fun e w' => e = .returned (.tuple #[.string ⟨#[100, 32, 101]⟩, .int .i64 0]) ∧ Below w.heap.size w w' := by
  have := City_c ⟨#[65, 47, 98, 95, 99, 47, 100, 95, 101]⟩ w (by unfold maxLen; decide) hM
  rw [gn_city.1, gn_city.2] at this
  exact this
end Go.Proofs.YtfjjdicgekgbeaaGreatDoor

/- What Name's answers give, plain. -/
namespace Go.Proofs.YtfjjdicgekgbeaaGreatDoor
open Go Go.RowKit Go.Maps
set_option linter.unusedVariables false

theorem nmE_ok {X : Wd} {loc zn : ByteArray} {t p : Int} (h : nmE X loc zn t p = 0) : nchk X = 0 ∧ (1 ≤ p ∧ p ≤ 4) ∧ btE X.bs X.bn loc = 0 ∧ zonE X.D zn = 0 ∧ 0 ≤ t ∧ t < 1893456000 := by
  unfold nmE at h
  split at h
  · rename_i h0
    split at h
    · rename_i h1
      split at h
      · rename_i h2
        split at h
        · rename_i h3; exact ⟨h0, h1, h2.1, h2.2, h3.1, h3.2⟩
        · cases h
      · cases h
    · cases h
  · rename_i h0; exact absurd h h0
theorem nmE_to {X : Wd} {loc zn : ByteArray} {t p : Int} (h0 : nchk X = 0) (h1 : 1 ≤ p ∧ p ≤ 4) (h2 : btE X.bs X.bn loc = 0) (h3 : zonE X.D zn = 0) (h4 : 0 ≤ t ∧ t < 1893456000) : nmE X loc zn t p = 0 := by
  unfold nmE
  rw [if_pos h0, if_pos h1, if_pos ⟨h2, h3⟩, if_pos h4]
theorem ats_to {D : Dt} {zn : ByteArray} {t : Int} (h3 : zonE D zn = 0) (h4 : 0 ≤ t ∧ t < 1893456000) : atsE D zn t = 0 := by
  unfold atsE
  rw [if_pos h3, if_pos h4]
/-- the offset but for seconds -/
def q60 (x : Int) : Int := x - x.tmod 60
theorem q60_div (x : Int) : q60 x = 60 * x.tdiv 60 := by unfold q60; have := Int.mul_tdiv_add_tmod x 60; omega
theorem q60_off {x : Int} (h1 : -57600 ≤ x) (h2 : x ≤ 57600) : Ofs.offB (q60 x) = true := by
  unfold Ofs.offB
  rw [decide_eq_true_iff]
  rw [q60_div]
  refine ⟨?_, ?_, by simp⟩
  · have r1 := Int.tmod_lt_of_pos x (show (0 : Int) < 60 by omega)
    have r2 := Int.lt_tmod_of_pos x (show (0 : Int) < 60 by omega)
    have := Int.mul_tdiv_add_tmod x 60
    omega
  · have r1 := Int.tmod_lt_of_pos x (show (0 : Int) < 60 by omega)
    have r2 := Int.lt_tmod_of_pos x (show (0 : Int) < 60 by omega)
    have := Int.mul_tdiv_add_tmod x 60
    omega
theorem shw3 {x : Int} (h1 : -57600 ≤ x) (h2 : x ≤ 57600) : shwT 3 (q60 x) = Ofs.sh 3 (q60 x) := by
  unfold shwT
  rw [if_pos ⟨rfl, q60_off h1 h2⟩]
theorem shw3_eq {x y : Int} (h1 : -57600 ≤ x) (h2 : x ≤ 57600) (h3 : -57600 ≤ y) (h4 : y ≤ 57600) : (shwT 3 (q60 x) == shwT 3 (q60 y)) = (x.tdiv 60 == y.tdiv 60) := by
  rw [shw3 h1 h2, shw3 h3 h4]
  by_cases h : x.tdiv 60 = y.tdiv 60
  · rw [q60_div, q60_div, h]; simp
  · rw [beq_eq_false_iff_ne.2 h, beq_eq_false_iff_ne.2]
    intro e
    have := Ofs.sh_inj (st := 3) rfl (q60_off h1 h2) (q60_off h3 h4) e
    rw [q60_div, q60_div] at this
    omega
theorem nm_off1 {X : Wd} {loc zn : ByteArray} {t : Int} (h : nmE X loc zn t 1 = 0) : nmR X loc zn t 1 = ⟨(shwT 3 (q60 (atsR X.D zn t).tot)).toArray⟩ := by
  unfold nmR nmP
  rw [if_pos h, if_pos rfl]
  rfl
theorem tot_16 {X : Wd} (h : nchk X = 0) (zn : ByteArray) (t : Int) : -57600 ≤ (atsR X.D zn t).tot ∧ (atsR X.D zn t).tot ≤ 57600 := by
  have := tot_in (uchk_ok (nchk_ok h).1).1 zn t
  omega
end Go.Proofs.YtfjjdicgekgbeaaGreatDoor
