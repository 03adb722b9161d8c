/- Worlds; contracts of package names: Check, isLocale, isZone, holds, text, byOff, byID. -/
import Derived.Test.YtfjjdicgekgbeaaGreatDoorUsesEAll
import Derived.Test.YtfjjdicgekgbeaaGreatDoorBooksEAll
import Derived.Test.YtfjjdicgekgbeaaGreatDoorOffsAAll
import Derived.Test.YtfjjdicgekgbeaaGreatDoorOffCAll
import Derived.Deep.RegionHeld3
import Derived.Test.YtfjjdicgekgbeaaGreatDoorShelfM
import Derived.Lib.Replace
import Derived.Lib.LastIndexByte
import Derived.Test.YtfjjdicgekgbeaaGreatDoorShelfN
namespace Go.Proofs.YtfjjdicgekgbeaaGreatDoor
open Go Go.RowKit Go.Maps
set_option linter.unusedVariables false

/-- zones, uses and books: where they lie, and what they are -/
structure Wd where
  D : Dt
  ua : Option Addr
  un : Nat
  uc : Nat
  us : Nat → Us
  ba : Option Addr
  bn : Nat
  bc : Nat
  bs : Nat → Bk
abbrev Wd.cs (X : Wd) : Array Value := #[.slice X.D.sa X.D.ns X.D.sc, .slice X.D.za X.D.nz X.D.zc, .slice X.D.la X.D.nl X.D.lc, .slice X.ua X.un X.uc, .slice X.ba X.bn X.bc]
abbrev Wd.v (X : Wd) : Value := .agg #[.slice X.D.sa X.D.ns X.D.sc, .slice X.D.za X.D.nz X.D.zc, .slice X.D.la X.D.nl X.D.lc, .slice X.ua X.un X.uc, .slice X.ba X.bn X.bc]
structure NEnv (w : World) (X : Wd) : Prop where
  ue : UEnv w X.D X.ua X.un X.uc X.us
  bl : X.bn ≤ maxLen
  bcap : X.bn ≤ X.bc
  bat : BAt w X.ba X.bn X.bs
  bf : ∀ j, j < X.bn → (X.bs j).fits
theorem NEnv.on {w w' : World} {X : Wd} (h : NEnv w X) (hb : Below w.heap.size w w') : NEnv w' X := ⟨h.ue.on hb, h.bl, h.bcap, h.bat.on hb, h.bf⟩
def nchk (X : Wd) : Int := if uchk X.D X.un X.us = 0 then bchk X.bn X.bs else uchk X.D X.un X.us
theorem cells5n {w : World} {b : Nat} {x y z u v : Value} {t : TypeId} (h : w.heap[b]? = some (.cells #[x, y, z, u, v] t)) : w.cell? ⟨b, 0, none⟩ = some x ∧ w.cell? ⟨b, 1, none⟩ = some y ∧ w.cell? ⟨b, 2, none⟩ = some z ∧ w.cell? ⟨b, 3, none⟩ = some u ∧ w.cell? ⟨b, 4, none⟩ = some v := by
  refine ⟨?_, ?_, ?_, ?_, ?_⟩ <;> simp [World.cell?, h]
theorem cells4n {w : World} {b : Nat} {x y z u : Value} {t : TypeId} (h : w.heap[b]? = some (.cells #[x, y, z, u] t)) : w.cell? ⟨b, 0, none⟩ = some x ∧ w.cell? ⟨b, 1, none⟩ = some y ∧ w.cell? ⟨b, 2, none⟩ = some z ∧ w.cell? ⟨b, 3, none⟩ = some u := by
  refine ⟨?_, ?_, ?_, ?_⟩ <;> simp [World.cell?, h]
set_option maxHeartbeats 4000000 in
theorem NCheck_c (X : Wd) (w : World) (hE : NEnv w X) : Calls Tryz.prog 37 #[X.v] w fun e w' => e = .returned (.int .i64 (nchk X)) ∧ Below w.heap.size w w' := by
  have HE := hideH hE
  have HB := hideH ((Below.refl _ w).alloc (Nat.le_refl _) (.cells X.cs 30))
  have HX := hideH (World.alloc_heap_new w (.cells X.cs 30))
  have HU := hideH (fun v (hv : Below w.heap.size w v) => UCheck_c X.D X.ua X.un X.uc X.us v (HE.out.on hv).ue.env hE.ue.dfit hE.ue.len hE.ue.cap (HE.out.on hv).ue.at_ hE.ue.fit)
  have HK := hideH (fun v (hv : Below w.heap.size w v) => BCheck_c X.ba X.bn X.bc X.bs v hE.bl hE.bcap (HE.out.on hv).bat hE.bf)
  obtain ⟨V, hV⟩ : ∃ V, V = nchk X := ⟨_, rfl⟩
  rw [← hV]
  have HV := hideH hV
  unfold nchk at HV
  clear hV hE
  generalize uchk X.D X.un X.us = ue at *
  generalize bchk X.bn X.bs = be at *
  rcases beq_cases ue 0 with ⟨q1, q2⟩ | ⟨q1, q2⟩
  · rw [if_pos q2] at HV
    subst q2
    clear q1
    go_enter Tryz.func37, Tryz.ntmps37
    go_wp2_with fail
    refine (HU.out _ HB.out).mono ?_
    rintro e w1 ⟨rfl, hw1⟩
    have H1 := hideH (bthen HB.out hw1)
    obtain ⟨c0, c1, c2, c3, c4⟩ := cells5n (heap_on HX.out hw1)
    clear hw1
    go_wp2_with fail
    refine (HK.out _ H1.out).mono ?_
    rintro e w2 ⟨rfl, hw2⟩
    go_wp2_with fail
    go_ret
    exact ⟨ret_int HV.out.symm, bthen H1.out hw2⟩
  · rw [if_neg q2] at HV
    have hne : (ue != 0) = true := by rw [bne_iff_ne]; exact q2
    clear q1 q2
    go_enter Tryz.func37, Tryz.ntmps37
    go_wp2_with fail
    refine (HU.out _ HB.out).mono ?_
    rintro e w1 ⟨rfl, hw1⟩
    have H1 := hideH (bthen HB.out hw1)
    clear hw1
    go_wp2_with fail
    go_ret
    exact ⟨ret_int HV.out.symm, H1.out⟩
/-- a caller -/
abbrev cv (p : Nat) (loc zn : ByteArray) (t : Int) : Value := .agg #[.pointer (some ⟨p, 0, none⟩), .string loc, .string zn, .int .i64 t]
abbrev cvC (p : Nat) (loc zn : ByteArray) (t : Int) : Obj := .cells #[.pointer (some ⟨p, 0, none⟩), .string loc, .string zn, .int .i64 t] 99
/-- what a caller's methods read -/
structure CEnv (w : World) (X : Wd) (p : Nat) (zn : ByteArray) : Prop where
  ne : NEnv w X
  box : w.heap[p]? = some (.cells X.cs 30)
  zs : zn.size ≤ maxLen
theorem CEnv.on {w w' : World} {X : Wd} {p : Nat} {zn : ByteArray} (h : CEnv w X p zn) (hb : Below w.heap.size w w') : CEnv w' X p zn := ⟨h.ne.on hb, heap_on h.box hb, h.zs⟩
set_option maxHeartbeats 4000000 in
theorem isLocaleN_c (X : Wd) (p : Nat) (loc zn : ByteArray) (t : Int) (w : World) (hE : CEnv w X p zn) : Calls Tryz.prog 39 #[cv p loc zn t] w fun e w' => e = .returned (.bool (btE X.bs X.bn loc == 0)) ∧ Below w.heap.size w w' := by
  have HE := hideH hE
  have HB := hideH ((Below.refl _ w).alloc (Nat.le_refl _) (cvC p loc zn t))
  obtain ⟨c0, c1, c2, c3⟩ := cells4n (World.alloc_heap_new w (cvC p loc zn t))
  obtain ⟨d0, d1, d2, d3, d4⟩ := cells5n (hE.on HB.out).box
  have HT := hideH (fun v (hv : Below w.heap.size w v) => BText_c X.ba X.bn X.bc X.bs loc ⟨#[]⟩ v hE.ne.bl hE.ne.bcap (HE.out.on hv).ne.bat hE.ne.bf)
  generalize btE X.bs X.bn loc = be at *
  generalize btT X.bs X.bn loc ⟨#[]⟩ = bt at *
  clear hE
  go_enter Tryz.func39, Tryz.ntmps39
  go_wp2_with fail
  go_region_held3 (fun v => v.cell? ⟨w.heap.size, 0, none⟩ = some (.pointer (some ⟨p, 0, none⟩)) ∧ v.cell? ⟨w.heap.size, 1, none⟩ = some (.string loc) ∧ v.cell? ⟨p, 4, none⟩ = some (.slice X.ba X.bn X.bc))
    (first | (exact ⟨c0, c1, d4⟩) | (exact ⟨cell_on (w := (w.alloc (cvC p loc zn t)).drew) c0 hw2, cell_on (w := (w.alloc (cvC p loc zn t)).drew) c1 hw2, cell_on (w := (w.alloc (cvC p loc zn t)).drew) d4 hw2⟩))
    ((go_at_call 65; refine (HT.out _ HB.out.drew).mono ?_; rintro e w2 ⟨rfl, hw2⟩))
  all_goals
    have H2 := hideH (bthen (a := (w.alloc (cvC p loc zn t)).drew) HB.out.drew hw2)
    clear hw2
    go_wp2_with fail
    go_ret
    exact ⟨rfl, H2.out⟩
set_option maxHeartbeats 4000000 in
theorem isZoneN_c (X : Wd) (p : Nat) (loc zn : ByteArray) (t : Int) (w : World) (hE : CEnv w X p zn) : Calls Tryz.prog 40 #[cv p loc zn t] w fun e w' => e = .returned (.bool (zonE X.D zn == 0)) ∧ Below w.heap.size w w' := by
  have HE := hideH hE
  have HB := hideH ((Below.refl _ w).alloc (Nat.le_refl _) (cvC p loc zn t))
  obtain ⟨c0, c1, c2, c3⟩ := cells4n (World.alloc_heap_new w (cvC p loc zn t))
  obtain ⟨d0, d1, d2, d3, d4⟩ := cells5n (hE.on HB.out).box
  have HT := hideH (fun v (hv : Below w.heap.size w v) => DZone_c X.D zn v (HE.out.on hv).ne.ue.env hE.ne.ue.dfit hE.zs)
  generalize zonE X.D zn = ze at *
  generalize zonR X.D zn = zr at *
  clear hE
  go_enter Tryz.func40, Tryz.ntmps40
  go_wp2_with fail
  go_region_held3 (fun v => v.cell? ⟨w.heap.size, 0, none⟩ = some (.pointer (some ⟨p, 0, none⟩)) ∧ v.cell? ⟨w.heap.size, 2, none⟩ = some (.string zn) ∧ v.cell? ⟨p, 0, none⟩ = some (.slice X.D.sa X.D.ns X.D.sc) ∧ v.cell? ⟨p, 1, none⟩ = some (.slice X.D.za X.D.nz X.D.zc) ∧ v.cell? ⟨p, 2, none⟩ = some (.slice X.D.la X.D.nl X.D.lc))
    (first | (exact ⟨c0, c2, d0, d1, d2⟩) | (exact ⟨cell_on (w := (w.alloc (cvC p loc zn t)).drew) c0 hw2, cell_on (w := (w.alloc (cvC p loc zn t)).drew) c2 hw2, cell_on (w := (w.alloc (cvC p loc zn t)).drew) d0 hw2, cell_on (w := (w.alloc (cvC p loc zn t)).drew) d1 hw2, cell_on (w := (w.alloc (cvC p loc zn t)).drew) d2 hw2⟩))
    ((go_at_call 66; refine (HT.out _ HB.out.drew).mono ?_; rintro e w2 ⟨rfl, hw2⟩))
  all_goals
    have H2 := hideH (bthen (a := (w.alloc (cvC p loc zn t)).drew) HB.out.drew hw2)
    clear hw2
    go_wp2_with fail
    go_ret
    exact ⟨rfl, H2.out⟩
set_option maxHeartbeats 4000000 in
theorem textN_c (X : Wd) (p : Nat) (loc zn key : ByteArray) (t : Int) (w : World) (hE : CEnv w X p zn) : Calls Tryz.prog 103 #[cv p loc zn t, .string key] w fun e w' => e = .returned (.tuple #[.string (btT X.bs X.bn loc key), .bool (!(btT X.bs X.bn loc key).toList.isEmpty)]) ∧ Below w.heap.size w w' := by
  have HE := hideH hE
  have HB := hideH ((Below.refl _ w).alloc (Nat.le_refl _) (cvC p loc zn t))
  obtain ⟨c0, c1, c2, c3⟩ := cells4n (World.alloc_heap_new w (cvC p loc zn t))
  obtain ⟨d0, d1, d2, d3, d4⟩ := cells5n (hE.on HB.out).box
  have HT := hideH (fun v (hv : Below w.heap.size w v) => BText_c X.ba X.bn X.bc X.bs loc key v hE.ne.bl hE.ne.bcap (HE.out.on hv).ne.bat hE.ne.bf)
  generalize btE X.bs X.bn loc = be at *
  generalize btT X.bs X.bn loc key = bt at *
  generalize (!bt.toList.isEmpty) = bb at *
  clear hE
  go_enter Tryz.func103, Tryz.ntmps103
  go_wp2_with fail
  go_region_held3 (fun v => v.cell? ⟨w.heap.size, 0, none⟩ = some (.pointer (some ⟨p, 0, none⟩)) ∧ v.cell? ⟨w.heap.size, 1, none⟩ = some (.string loc) ∧ v.cell? ⟨p, 4, none⟩ = some (.slice X.ba X.bn X.bc))
    (first | (exact ⟨c0, c1, d4⟩) | (exact ⟨cell_on (w := (w.alloc (cvC p loc zn t)).drew) c0 hw2, cell_on (w := (w.alloc (cvC p loc zn t)).drew) c1 hw2, cell_on (w := (w.alloc (cvC p loc zn t)).drew) d4 hw2⟩))
    ((go_at_call 65; refine (HT.out _ HB.out.drew).mono ?_; rintro e w2 ⟨rfl, hw2⟩))
  all_goals
    have H2 := hideH (bthen (a := (w.alloc (cvC p loc zn t)).drew) HB.out.drew hw2)
    clear hw2
    go_wp2_with fail
    go_ret2
    exact ⟨rfl, H2.out⟩
end Go.Proofs.YtfjjdicgekgbeaaGreatDoor

/- Contracts of package names: holds, byOff, byID, City. -/
namespace Go.Proofs.YtfjjdicgekgbeaaGreatDoor
open Go Go.RowKit Go.Maps
set_option linter.unusedVariables false

theorem ret_str {a b : ByteArray} (h : a = b) : Ending.returned (.string a) = .returned (.string b) := by rw [h]
abbrev ofZ : Obj := .cells #[.int .i64 0, .int .i64 0, .string ⟨#[]⟩] 110
/-- what holds reads: the caller's cells at b, the world's at p -/
abbrev hS (b p : Nat) (X : Wd) (zn : ByteArray) (t : Int) (v : World) : Prop :=
  v.cell? ⟨b, 0, none⟩ = some (.pointer (some ⟨p, 0, none⟩)) ∧ v.cell? ⟨b, 2, none⟩ = some (.string zn) ∧ v.cell? ⟨b, 3, none⟩ = some (.int .i64 t) ∧ v.cell? ⟨p, 0, none⟩ = some (.slice X.D.sa X.D.ns X.D.sc) ∧ v.cell? ⟨p, 1, none⟩ = some (.slice X.D.za X.D.nz X.D.zc) ∧ v.cell? ⟨p, 2, none⟩ = some (.slice X.D.la X.D.nl X.D.lc)
theorem hS_on {b p : Nat} {X : Wd} {zn : ByteArray} {t : Int} {v v' : World} (h : hS b p X zn t v) (hb : Below v.heap.size v v') : hS b p X zn t v' :=
  ⟨cell_on h.1 hb, cell_on h.2.1 hb, cell_on h.2.2.1 hb, cell_on h.2.2.2.1 hb, cell_on h.2.2.2.2.1 hb, cell_on h.2.2.2.2.2 hb⟩
theorem cso_n {w : World} {p : Addr} {v : Value} {b o : Nat} (h : b ≠ p.block) : (w.setCell p v).cell? ⟨b, o, none⟩ = w.cell? ⟨b, o, none⟩ := World.cell?_of_block (by rw [Below.heap_setCell _ _ _ _ h])
theorem frz_n {w : World} {b : Nat} {x y z : Value} {t : TypeId} (h : w.heap[b]? = some (.cells #[x, y, z] t)) (o : Nat) : w.frozen? ⟨b, o, none⟩ = false := by simp [World.frozen?, h]
theorem keep3n {v : World} {b q o : Nat} {x y z u : Value} (h : v.cell? ⟨q, o, none⟩ = some u) (hne : q ≠ b) : (((v.setCell ⟨b, 0, none⟩ x).setCell ⟨b, 1, none⟩ y).setCell ⟨b, 2, none⟩ z).cell? ⟨q, o, none⟩ = some u := by
  rw [cso_n (by exact hne), cso_n (by exact hne), cso_n (by exact hne)]; exact h
theorem hS_far {b p q : Nat} {X : Wd} {zn : ByteArray} {t : Int} {v : World} {x y z : Value} (h : hS b p X zn t v) (h1 : b ≠ q) (h2 : p ≠ q) : hS b p X zn t (((v.setCell ⟨q, 0, none⟩ x).setCell ⟨q, 1, none⟩ y).setCell ⟨q, 2, none⟩ z) :=
  ⟨keep3n h.1 h1, keep3n h.2.1 h1, keep3n h.2.2.1 h1, keep3n h.2.2.2.1 h2, keep3n h.2.2.2.2.1 h2, keep3n h.2.2.2.2.2 h2⟩
theorem cell_ltn {w : World} {p : Addr} {v : Value} (h : w.cell? p = some v) : p.block < w.heap.size := by
  by_cases hb : p.block < w.heap.size
  · exact hb
  · unfold World.cell? at h
    rw [Array.getElem?_eq_none (by omega)] at h
    simp at h
abbrev ofC (o : Of) : Obj := .cells #[.int .i64 o.tot, .int .i64 o.sv, .string o.ab] 110
/-- where what holds lies -/
def hM (w : World) (o : Of) (q : Nat) (wx : World) : Prop := Below w.heap.size w wx ∧ wx.heap[q]? = some (ofC o) ∧ wx.heap[w.heap.size + 1]? = some ofZ
theorem hM_a {w W0 w2 : World} {o : Of} (hB : Below w.heap.size w W0) (hO : W0.heap[w.heap.size + 1]? = some ofZ) (hw2 : Below W0.drew.heap.size W0.drew w2) : hM w o w2.heap.size (w2.alloc (ofC o)) := by
  have hb := (Below.refl _ w2).alloc (Nat.le_refl _) (ofC o)
  exact ⟨bthen (bthen (a := W0.drew) hB.drew hw2) hb, World.alloc_heap_new _ _, heap_on (heap_on (w := W0.drew) hO hw2) hb⟩
theorem hM_b {w W0 w2 : World} {o : Of} (hB : Below w.heap.size w W0) (hO : W0.heap[w.heap.size + 1]? = some ofZ) (hw2 : Below (W0.alloc ofZ).drew.heap.size (W0.alloc ofZ).drew w2) : hM w o W0.heap.size (((w2.setCell ⟨W0.heap.size, 0, none⟩ (.int .i64 o.tot)).setCell ⟨W0.heap.size, 1, none⟩ (.int .i64 o.sv)).setCell ⟨W0.heap.size, 2, none⟩ (.string o.ab)) := by
  have hb := (Below.refl _ W0).alloc (Nat.le_refl _) ofZ
  have hz := hB.size
  have l1 := (Array.getElem?_eq_some_iff.1 hO).1
  have h4 : Below w.heap.size w w2 := bthen (w := w) (a := (W0.alloc ofZ).drew) (bthen hB hb).drew hw2
  have n := heap_on (w := (W0.alloc ofZ).drew) (World.alloc_heap_new W0 ofZ) hw2
  have d1 := heap_on (w := (W0.alloc ofZ).drew) (heap_on hO hb.drew) hw2
  refine ⟨((h4.setCell (p := ⟨W0.heap.size, 0, none⟩) hz _).setCell (p := ⟨W0.heap.size, 1, none⟩) hz _).setCell (p := ⟨W0.heap.size, 2, none⟩) hz _, setCell_at (setCell_at (setCell_at n _) _) _, ?_⟩
  rw [Below.heap_setCell _ _ _ _ (show w.heap.size + 1 ≠ W0.heap.size by omega), Below.heap_setCell _ _ _ _ (show w.heap.size + 1 ≠ W0.heap.size by omega), Below.heap_setCell _ _ _ _ (show w.heap.size + 1 ≠ W0.heap.size by omega)]; exact d1
set_option maxRecDepth 100000 in
set_option maxHeartbeats 4000000 in
theorem holds_n (X : Wd) (p : Nat) (loc zn : ByteArray) (t : Int) (w : World) (hE : CEnv w X p zn) : Calls Tryz.prog 100 #[cv p loc zn t] w fun e w' => e = .returned (atsR X.D zn t).v ∧ Below w.heap.size w w' := by
  have HE := hideH hE
  have bx := two_boxes w (cvC p loc zn t) ofZ
  obtain ⟨W0, hW0⟩ : ∃ W0, W0 = (w.alloc (cvC p loc zn t)).alloc ofZ := ⟨_, rfl⟩
  rw [← hW0] at bx
  have HB := hideH bx.1
  have HO := hideH bx.2.2
  obtain ⟨c0, c1, c2, c3⟩ := cells4n bx.2.1
  obtain ⟨d0, d1, d2, d3, d4⟩ := cells5n (hE.on bx.1).box
  have HT := hideH (fun v (hv : Below w.heap.size w v) => OAt_c X.D zn t v (HE.out.on hv).ne.ue.env hE.ne.ue.dfit hE.zs)
  have hs0 : w.heap.size < W0.heap.size := by rw [hW0]; simp; omega
  have hp : p < w.heap.size := (Array.getElem?_eq_some_iff.1 hE.box).1
  have s0 := hideH (show hS w.heap.size p X zn t W0 from ⟨c0, c2, c3, d0, d1, d2⟩)
  have hbz := (Below.refl _ W0).alloc (Nat.le_refl _) ofZ
  generalize atsR X.D zn t = o at *
  generalize atsE X.D zn t = oe at *
  simp only [Of.v] at HT ⊢
  clear hE bx c0 c1 c2 c3 d0 d1 d2 d3 d4
  go_enter Tryz.func100, Tryz.ntmps100
  go_wp2_with fail
  simp only [← hW0]
  clear hW0
  go_region_held3 (fun v => v.cell? ⟨w.heap.size, 0, none⟩ = some (.pointer (some ⟨p, 0, none⟩)) ∧ v.cell? ⟨w.heap.size, 2, none⟩ = some (.string zn) ∧ v.cell? ⟨w.heap.size, 3, none⟩ = some (.int .i64 t) ∧ v.cell? ⟨p, 0, none⟩ = some (.slice X.D.sa X.D.ns X.D.sc) ∧ v.cell? ⟨p, 1, none⟩ = some (.slice X.D.za X.D.nz X.D.zc) ∧ v.cell? ⟨p, 2, none⟩ = some (.slice X.D.la X.D.nl X.D.lc))
    (first
      | (exact s0.out)
      | (exact hS_on s0.out hbz.drew)
      | (exact hS_on (v := W0.drew) s0.out hw2)
      | (exact hS_on (v := (W0.alloc ofZ).drew) (hS_on s0.out hbz.drew) hw2)
      | (exact hS_on (hS_on (v := W0.drew) s0.out hw2) ((Below.refl _ _).alloc (Nat.le_refl _) _))
      | (exact hS_far (hS_on (v := (W0.alloc ofZ).drew) (hS_on s0.out hbz.drew) hw2) (by omega) (by omega))
      | go_keep)
    ((go_at_call 137; (first | refine (HT.out _ (by exact HB.out.drew)).mono ?_ | refine (HT.out _ (by exact (HB.out.alloc HB.out.size _).drew)).mono ?_); rintro e w2 ⟨rfl, hw2⟩; try (have hz6 := heap_on (w := (W0.alloc ofZ).drew) (World.alloc_heap_new W0 ofZ) hw2; obtain ⟨e0, e1, e2⟩ := cells3 hz6; have y0 := frz_n hz6 0; have y1 := frz_n hz6 1; have y2 := frz_n hz6 2)))
  all_goals
    rename_i hHeld
    clear hHeld
    first
      | (have HM := hideH (hM_a (o := o) HB.out HO.out hw2)
         generalize (w2.alloc (ofC o)) = Wn at *
         generalize w2.heap.size = q at *)
      | (have HM := hideH (hM_b (o := o) HB.out HO.out hw2)
         generalize (((w2.setCell ⟨W0.heap.size, 0, none⟩ (.int .i64 o.tot)).setCell ⟨W0.heap.size, 1, none⟩ (.int .i64 o.sv)).setCell ⟨W0.heap.size, 2, none⟩ (.string o.ab)) = Wn at *
         clear hbz hw2 hz6 e0 e1 e2 y0 y1 y2 hs0 s0
         generalize W0.heap.size = q at *)
    obtain ⟨e0, e1, e2⟩ := cells3 HM.out.2.1
    obtain ⟨f0, f1, f2⟩ := cells3 HM.out.2.2
    have y0 := frz_n HM.out.2.2 0
    have y1 := frz_n HM.out.2.2 1
    have y2 := frz_n HM.out.2.2 2
    go_wp2_with fail
    refine bodyPost_ret (v := .agg #[.int .i64 o.tot, .int .i64 o.sv, .string o.ab]) ?_ rfl ⟨rfl, ?_⟩
    · have q0 := setCell_at (o := 2) (setCell_at (o := 1) (setCell_at (o := 0) HM.out.2.2 (.int .i64 o.tot)) (.int .i64 o.sv)) (.string o.ab)
      obtain ⟨g0, g1, g2⟩ := cells3 q0
      simp [results, Tryz.results100, go_sem, g0, g1, g2]
    · exact ((HM.out.1.setCell (p := ⟨w.heap.size + 1, 0, none⟩) (by simp) _).setCell (p := ⟨w.heap.size + 1, 1, none⟩) (by simp) _).setCell (p := ⟨w.heap.size + 1, 2, none⟩) (by simp) _
theorem fld_0 (a b : Int) (c : ByteArray) (w : World) : (Instr.field 110 (.agg #[.int .i64 a, .int .i64 b, .string c]) 0).run Tryz.prog w = .ok (.int .i64 a) w := by kernel_rfl
theorem fld_1 (a b : Int) (c : ByteArray) (w : World) : (Instr.field 110 (.agg #[.int .i64 a, .int .i64 b, .string c]) 1).run Tryz.prog w = .ok (.int .i64 b) w := by kernel_rfl
/-- what a zone is called by its offset -/
def nmOff (D : Dt) (zn : ByteArray) (t : Int) : ByteArray := ⟨(shwT 3 ((atsR D zn t).tot - (atsR D zn t).tot.tmod 60)).toArray⟩
set_option maxRecDepth 100000 in
set_option maxHeartbeats 4000000 in
theorem byOff_n (X : Wd) (p : Nat) (loc zn : ByteArray) (t : Int) (w : World) (hE : CEnv w X p zn) (hT : -1000000 ≤ (atsR X.D zn t).tot ∧ (atsR X.D zn t).tot ≤ 1000000) : Calls Tryz.prog 61 #[cv p loc zn t] w fun e w' => e = .returned (.string (nmOff X.D zn t)) ∧ Below w.heap.size w w' := by
  have HE := hideH hE
  have HB := hideH ((Below.refl _ w).alloc (Nat.le_refl _) (cvC p loc zn t))
  obtain ⟨c0, c1, c2, c3⟩ := cells4n (World.alloc_heap_new w (cvC p loc zn t))
  have HH := hideH (fun v (hv : Below w.heap.size w v) => holds_n X p loc zn t v (HE.out.on hv))
  obtain ⟨V, hV⟩ : ∃ V, V = nmOff X.D zn t := ⟨_, rfl⟩
  rw [← hV]
  have HV := hideH hV
  unfold nmOff at HV
  clear hV hE
  simp only [Of.v] at HH
  generalize atsR X.D zn t = o at *
  obtain ⟨tt, o2, o3⟩ := o
  simp only at *
  obtain ⟨h1, h2⟩ := hT
  have r1 := Int.tmod_lt_of_pos tt (show (0 : Int) < 60 by omega)
  have r2 := Int.lt_tmod_of_pos tt (show (0 : Int) < 60 by omega)
  generalize hr : tt.tmod 60 = r at *
  have hfl := fld_0
  go_enter Tryz.func61, Tryz.ntmps61
  go_wp2_with fail
  refine (HH.out _ HB.out).mono ?_
  rintro e w1 ⟨rfl, hw1⟩
  have H1 := hideH (bthen HB.out hw1)
  clear hw1
  go_wp2_with fail
  refine (Show_c _ _ _).mono ?_
  rintro e w2 ⟨rfl, hw2⟩
  go_wp2_with fail
  go_ret
  exact ⟨ret_str HV.out.symm, bthen H1.out hw2⟩
/-- what a zone is called by its name -/
def nmId (D : Dt) (zn : ByteArray) : ByteArray := (D.zs (zonR D zn).toNat).nm
set_option maxRecDepth 100000 in
set_option maxHeartbeats 4000000 in
theorem byID_n (X : Wd) (p : Nat) (loc zn : ByteArray) (t : Int) (w : World) (hE : CEnv w X p zn) (h0 : zonE X.D zn = 0) : Calls Tryz.prog 62 #[cv p loc zn t] w fun e w' => e = .returned (.string (nmId X.D zn)) ∧ Below w.heap.size w w' := by
  have HE := hideH hE
  have HB := hideH ((Below.refl _ w).alloc (Nat.le_refl _) (cvC p loc zn t))
  obtain ⟨c0, c1, c2, c3⟩ := cells4n (World.alloc_heap_new w (cvC p loc zn t))
  obtain ⟨d0, d1, d2, d3, d4⟩ := cells5n (hE.on HB.out).box
  have HX := hideH hE.box
  have hp : p < w.heap.size := (Array.getElem?_eq_some_iff.1 hE.box).1
  obtain ⟨k, hk, hkz⟩ := zonE_in h0
  have n2 := hE.ne.ue.dfit.nz
  unfold maxLen at n2
  have HT := hideH (fun v (hv : Below w.heap.size w v) => DZone_c X.D zn v (HE.out.on hv).ne.ue.env hE.ne.ue.dfit hE.zs)
  rw [h0, hk] at HT
  have HV : Hid (nmId X.D zn = (X.D.zs k).nm) := by show _ = _; unfold nmId; rw [hk]; rfl
  rw [HV.out]
  clear hE h0 hk
  go_enter Tryz.func62, Tryz.ntmps62
  go_wp2_with fail
  go_region_held3 (fun v => v.cell? ⟨w.heap.size, 0, none⟩ = some (.pointer (some ⟨p, 0, none⟩)) ∧ v.cell? ⟨w.heap.size, 2, none⟩ = some (.string zn) ∧ v.cell? ⟨p, 0, none⟩ = some (.slice X.D.sa X.D.ns X.D.sc) ∧ v.cell? ⟨p, 1, none⟩ = some (.slice X.D.za X.D.nz X.D.zc) ∧ v.cell? ⟨p, 2, none⟩ = some (.slice X.D.la X.D.nl X.D.lc))
    (first | (exact ⟨c0, c2, d0, d1, d2⟩) | (exact ⟨cell_on (w := (w.alloc (cvC p loc zn t)).drew) c0 hw2, cell_on (w := (w.alloc (cvC p loc zn t)).drew) c2 hw2, cell_on (w := (w.alloc (cvC p loc zn t)).drew) d0 hw2, cell_on (w := (w.alloc (cvC p loc zn t)).drew) d1 hw2, cell_on (w := (w.alloc (cvC p loc zn t)).drew) d2 hw2⟩))
    ((go_at_call 66; refine (HT.out _ HB.out.drew).mono ?_; rintro e w2 ⟨rfl, hw2⟩))
  all_goals
    have H2 := hideH (bthen (a := (w.alloc (cvC p loc zn t)).drew) HB.out.drew hw2)
    rename_i hHeld
    obtain ⟨e0, e1, e2, e3, e4⟩ := hHeld
    clear c0 c1 c2 c3 d0 d1 d2 d3 d4 hw2
    rcases (HE.out.on H2.out).ne.ue.env.dat.zones with hn0 | ⟨b, off, hsa, hcs⟩
    · omega
    obtain ⟨f0, f1⟩ := hcs k hkz
    rw [hsa] at e3
    clear hsa hcs
    go_wp2_with fail
    go_ret
    exact ⟨rfl, H2.out⟩
end Go.Proofs.YtfjjdicgekgbeaaGreatDoor

/- The last part of a name, plain. -/
namespace Go.Proofs.YtfjjdicgekgbeaaGreatDoor
open Go Go.RowKit
set_option linter.unusedVariables false

/-- behind the last '/' -/
def lastP (l : List UInt8) : List UInt8 := (l.reverse.takeWhile (fun c => c != 47)).reverse
/-- '_' is ' ' -/
def spc (c : UInt8) : UInt8 := if c = 95 then 32 else c
def cty (l : List UInt8) : List UInt8 := (lastP l).map spc
theorem lastP_none {l : List UInt8} (h : ∀ c ∈ l, c ≠ 47) : lastP l = l := by
  unfold lastP
  have : l.reverse.takeWhile (fun c => c != 47) = l.reverse := by
    have h2 : ∀ c ∈ l.reverse, (c != 47) = true := by
      intro c hc
      rw [List.mem_reverse] at hc
      simpa using h c hc
    have := List.takeWhile_append_of_pos (l₂ := []) h2
    simpa using this
  rw [this, List.reverse_reverse]
theorem lastP_app {a b : List UInt8} (h : ∀ c ∈ b, c ≠ 47) : lastP (a ++ 47 :: b) = b := by
  unfold lastP
  rw [List.reverse_append, List.reverse_cons, List.append_assoc, List.takeWhile_append_of_pos]
  · simp
  · intro c hc
    rw [List.mem_reverse] at hc
    simpa using h c hc
theorem rpk (l : List UInt8) : Lib.replaceK [95] [32] (Lib.countByte l 95) l = l.map spc := by
  induction l with
  | nil => rfl
  | cons b l ih =>
    unfold Lib.countByte at ih ⊢
    by_cases hb : b = 95
    · subst hb
      rw [List.count_cons_self, Lib.replaceK_hit [95] [32] _ _ 0 (by simp [Lib.index, List.isPrefixOf])]
      simp [ih, spc]
    · rw [List.count_cons_of_ne (by simpa using hb)]
      have hi : Lib.index (b :: l) [95] = if Lib.index l [95] == -1 then -1 else Lib.index l [95] + 1 := by
        have : ([95] : List UInt8).isPrefixOf (b :: l) = false := by simp [List.isPrefixOf]; intro h; exact hb h.symm
        rw [Lib.index, this]; rfl
      have hs : spc b = b := by unfold spc; rw [if_neg hb]
      cases hk : List.count 95 l with
      | zero => rw [hk] at ih; simp only [Lib.replaceK] at ih ⊢; rw [List.map_cons, hs, ← ih]
      | succ k =>
        rw [hk] at ih
        obtain ⟨i, hx⟩ := Lib.index_of_count (s := l) (old := [95]) (by rw [Lib.count_one]; show 0 < Lib.countByte l 95; unfold Lib.countByte; omega)
        rw [Lib.replaceK_hit _ _ k l i hx] at ih
        rw [Lib.replaceK_hit _ _ k (b :: l) (i + 1) (by rw [hi, hx]; rw [if_neg (by simp; try omega)]; rfl), List.map_cons, hs, ← ih]
        simp
theorem rep_spc (l : List UInt8) : Lib.replaceAll l [95] [32] = l.map spc := by
  unfold Lib.replaceAll Lib.replace
  rw [if_neg (by decide)]
  unfold Lib.replaceNum
  rw [if_pos (by left; decide), Lib.count_one]
  exact rpk l
theorem last_cut (s : ByteArray) : ∃ k : Nat, Lib.lastIndexByte s 47 + 1 = (k : Int) ∧ k ≤ s.size ∧ (s.data.toList.drop k) = lastP s.data.toList := by
  have hsz : s.data.toList.length = s.size := by simp
  unfold Lib.lastIndexByte
  rcases Lib.lastIdx_spec s 47 s.size with ⟨h, hn⟩ | ⟨i, hi, h, he, hn⟩
  · refine ⟨0, by rw [h]; rfl, Nat.zero_le _, ?_⟩
    rw [List.drop_zero, lastP_none]
    intro c hc e
    obtain ⟨j, hj, hjc⟩ := List.getElem_of_mem hc
    refine hn j (by omega) ?_
    have : s.data[j]! = c := by rw [← hjc]; simp at hj; simp [hj]
    rw [this, e]; rfl
  · refine ⟨i + 1, by rw [h]; rfl, hi, ?_⟩
    have hli : i < s.data.toList.length := by omega
    have hc47 : s.data.toList[i] = 47 := by
      have : s.data[i]! = s.data.toList[i] := by simp at hli; simp [hli]
      rw [this] at he
      apply UInt8.toNat_inj.1
      have h47 : (47 : UInt8).toNat = 47 := rfl
      omega
    have hsp : s.data.toList = s.data.toList.take i ++ 47 :: s.data.toList.drop (i + 1) := by
      rw [← hc47, ← List.drop_eq_getElem_cons hli, List.take_append_drop]
    conv => rhs; rw [hsp]
    rw [lastP_app]
    intro c hc e
    obtain ⟨j, hj, hjc⟩ := List.getElem_of_mem hc
    rw [List.getElem_drop] at hjc
    rw [List.length_drop] at hj
    refine hn (i + 1 + j) (by omega) (by omega) ?_
    have hlt : i + 1 + j < s.data.toList.length := by omega
    have : s.data[i + 1 + j]! = c := by
      rw [← hjc]
      have h3 : i + 1 + j < s.data.size := by simpa using hlt
      rw [getElem!_pos s.data _ h3, Array.getElem_toList]
    rw [this, e]; rfl
end Go.Proofs.YtfjjdicgekgbeaaGreatDoor

/- Contracts of package names: byName, City, byCity. -/
namespace Go.Proofs.YtfjjdicgekgbeaaGreatDoor
open Go Go.RowKit Go.Maps
set_option linter.unusedVariables false

/-- a Meta's key -/
def nmKey (X : Wd) (zn : ByteArray) (t : Int) : ByteArray := umtR X.D X.un X.us zn t ++ (if (atsR X.D zn t).sv = 0 then ⟨#[47, 115]⟩ else ⟨#[47, 100]⟩)
/-- what a zone is called by its Meta -/
def nmName (X : Wd) (loc zn : ByteArray) (t : Int) : ByteArray := if (!(btT X.bs X.bn loc (nmKey X zn t)).toList.isEmpty) = true then btT X.bs X.bn loc (nmKey X zn t) else nmOff X.D zn t
abbrev mS (b p : Nat) (X : Wd) (zn : ByteArray) (t : Int) (v : World) : Prop :=
  v.cell? ⟨b, 0, none⟩ = some (.pointer (some ⟨p, 0, none⟩)) ∧ v.cell? ⟨b, 2, none⟩ = some (.string zn) ∧ v.cell? ⟨b, 3, none⟩ = some (.int .i64 t) ∧ v.cell? ⟨p, 0, none⟩ = some (.slice X.D.sa X.D.ns X.D.sc) ∧ v.cell? ⟨p, 1, none⟩ = some (.slice X.D.za X.D.nz X.D.zc) ∧ v.cell? ⟨p, 2, none⟩ = some (.slice X.D.la X.D.nl X.D.lc) ∧ v.cell? ⟨p, 3, none⟩ = some (.slice X.ua X.un X.uc)
theorem mS_on {b p : Nat} {X : Wd} {zn : ByteArray} {t : Int} {v v' : World} (h : mS b p X zn t v) (hb : Below v.heap.size v v') : mS b p X zn t v' :=
  ⟨cell_on h.1 hb, cell_on h.2.1 hb, cell_on h.2.2.1 hb, cell_on h.2.2.2.1 hb, cell_on h.2.2.2.2.1 hb, cell_on h.2.2.2.2.2.1 hb, cell_on h.2.2.2.2.2.2 hb⟩
set_option maxRecDepth 100000 in
set_option maxHeartbeats 4000000 in
theorem byName_n (X : Wd) (p : Nat) (loc zn : ByteArray) (t : Int) (w : World) (hE : CEnv w X p zn) (hT : -1000000 ≤ (atsR X.D zn t).tot ∧ (atsR X.D zn t).tot ≤ 1000000) (hU : (umtR X.D X.un X.us zn t).size ≤ 1000) : Calls Tryz.prog 63 #[cv p loc zn t] w fun e w' => e = .returned (.string (nmName X loc zn t)) ∧ Below w.heap.size w w' := by
  have HE := hideH hE
  have HB := hideH ((Below.refl _ w).alloc (Nat.le_refl _) (cvC p loc zn t))
  have HC := hideH (World.alloc_heap_new w (cvC p loc zn t))
  obtain ⟨c0, c1, c2, c3⟩ := cells4n (World.alloc_heap_new w (cvC p loc zn t))
  obtain ⟨d0, d1, d2, d3, d4⟩ := cells5n (hE.on HB.out).box
  have s0 := hideH (show mS w.heap.size p X zn t (w.alloc (cvC p loc zn t)) from ⟨c0, c2, c3, d0, d1, d2, d3⟩)
  have HM := hideH (fun v (hv : Below w.heap.size w v) => Meta_c X.D X.ua X.un X.uc X.us zn t v (HE.out.on hv).ne.ue hE.zs)
  have HH := hideH (fun v (hv : Below w.heap.size w v) => holds_n X p loc zn t v (HE.out.on hv))
  have HO := hideH (fun v (hv : Below w.heap.size w v) => byOff_n X p loc zn t v (HE.out.on hv) hT)
  have HX := hideH (fun key v (hv : Below w.heap.size w v) => textN_c X p loc zn key t v (HE.out.on hv))
  have hfl := fld_1
  obtain ⟨V, hV⟩ : ∃ V, V = nmName X loc zn t := ⟨_, rfl⟩
  rw [← hV]
  have HV := hideH hV
  unfold nmName nmKey at HV
  clear hV hE hT c0 c1 c2 c3 d0 d1 d2 d3 d4
  simp only [Of.v] at HH
  generalize atsR X.D zn t = o at *
  generalize nmOff X.D zn t = T at *
  generalize umtE X.D X.un X.us zn t = me at *
  generalize umtR X.D X.un X.us zn t = m at *
  obtain ⟨tt, o2, o3⟩ := o
  simp only at *
  have hlen : (9223372036854775807 < m.size + 2) = False := by simp; omega
  have hlen2 : (9223372036854775807 < m.data.toList.length + 2) = False := by simp; omega
  go_enter Tryz.func63, Tryz.ntmps63
  go_wp2_with fail
  go_region_held3 (fun v => v.cell? ⟨w.heap.size, 0, none⟩ = some (.pointer (some ⟨p, 0, none⟩)) ∧ v.cell? ⟨w.heap.size, 2, none⟩ = some (.string zn) ∧ v.cell? ⟨w.heap.size, 3, none⟩ = some (.int .i64 t) ∧ v.cell? ⟨p, 0, none⟩ = some (.slice X.D.sa X.D.ns X.D.sc) ∧ v.cell? ⟨p, 1, none⟩ = some (.slice X.D.za X.D.nz X.D.zc) ∧ v.cell? ⟨p, 2, none⟩ = some (.slice X.D.la X.D.nl X.D.lc) ∧ v.cell? ⟨p, 3, none⟩ = some (.slice X.ua X.un X.uc))
    (first | (exact s0.out) | (exact mS_on (v := (w.alloc (cvC p loc zn t)).drew) s0.out hw2))
    ((go_at_call 102; refine (HM.out _ HB.out.drew).mono ?_; rintro e w2 ⟨rfl, hw2⟩))
  all_goals
    rename_i hHeld
    clear hHeld
    have H2 := hideH (bthen (a := (w.alloc (cvC p loc zn t)).drew) HB.out.drew hw2)
    have C2 := hideH (heap_on (w := (w.alloc (cvC p loc zn t)).drew) HC.out hw2)
    clear hw2 HC s0 HM
    obtain ⟨c0, c1, c2, c3⟩ := cells4n C2.out
    go_wp2_with fail
    refine (HH.out _ H2.out).mono ?_
    rintro e w3 ⟨rfl, hw3⟩
    have H3 := hideH (bthen H2.out hw3)
    have C3 := hideH (heap_on C2.out hw3)
    clear hw3 C2 c0 c1 c2 c3 HH
    obtain ⟨c0, c1, c2, c3⟩ := cells4n C3.out
    rcases beq_cases o2 0 with ⟨q1, q2⟩ | ⟨q1, q2⟩
    · rw [if_pos q2] at HV
      subst q2
      clear q1
      have HXk := hideH (HX.out (m ++ ⟨#[47, 115]⟩))
      clear HX
      go_wp2_with fail
      refine (HXk.out _ H3.out).mono ?_
      rintro e w4 ⟨rfl, hw4⟩
      have H4 := hideH (bthen H3.out hw4)
      have C4 := hideH (heap_on C3.out hw4)
      clear hw4 C3 c0 c1 c2 c3 HXk
      generalize btT X.bs X.bn loc (m ++ ⟨#[47, 115]⟩) = R at *
      cases hb : (!R.toList.isEmpty)
      · rw [hb, if_neg (by decide)] at HV
        obtain ⟨c0, c1, c2, c3⟩ := cells4n C4.out
        clear hb
        go_wp2_with fail
        refine (HO.out _ H4.out).mono ?_
        rintro e w5 ⟨rfl, hw5⟩
        go_wp2_with fail
        go_ret
        exact ⟨ret_str HV.out.symm, bthen H4.out hw5⟩
      · rw [hb, if_pos rfl] at HV
        clear hb
        go_wp2_with fail
        go_ret
        exact ⟨ret_str HV.out.symm, H4.out⟩
    · rw [if_neg q2] at HV
      have hne : (o2 != 0) = true := by rw [bne_iff_ne]; exact q2
      clear q1 q2
      have HXk := hideH (HX.out (m ++ ⟨#[47, 100]⟩))
      clear HX
      go_wp2_with fail
      refine (HXk.out _ H3.out).mono ?_
      rintro e w4 ⟨rfl, hw4⟩
      have H4 := hideH (bthen H3.out hw4)
      have C4 := hideH (heap_on C3.out hw4)
      clear hw4 C3 c0 c1 c2 c3 HXk
      generalize btT X.bs X.bn loc (m ++ ⟨#[47, 100]⟩) = R at *
      cases hb : (!R.toList.isEmpty)
      · rw [hb, if_neg (by decide)] at HV
        obtain ⟨c0, c1, c2, c3⟩ := cells4n C4.out
        clear hb
        go_wp2_with fail
        refine (HO.out _ H4.out).mono ?_
        rintro e w5 ⟨rfl, hw5⟩
        go_wp2_with fail
        go_ret
        exact ⟨ret_str HV.out.symm, bthen H4.out hw5⟩
      · rw [hb, if_pos rfl] at HV
        clear hb
        go_wp2_with fail
        go_ret
        exact ⟨ret_str HV.out.symm, H4.out⟩
/-- a name's city, and its error -/
def ctB (s : ByteArray) : ByteArray := if nameB s = true then ⟨(cty s.data.toList).toArray⟩ else ⟨#[]⟩
def ctE (s : ByteArray) : Int := if nameB s = true then 0 else 5
theorem nameB_12 {s : ByteArray} (h : nameB s = true) : 1 ≤ s.size ∧ s.size ≤ 12 := by
  unfold nameB at h
  simp at h
  exact h.1
theorem ext_end (s : ByteArray) {k : Nat} (h : k ≤ s.size) : (s.extract k s.size).data.toList = s.data.toList.drop k := by
  simp
  rw [List.take_of_length_le]
  simp
theorem cnt_le (s : ByteArray) : Lib.countB s ⟨#[95]⟩ ≤ s.size := by
  unfold Lib.countB
  rw [show (⟨#[95]⟩ : ByteArray).data.toList = [95] from rfl, Lib.count_one]
  have := List.count_le_length (a := (95 : UInt8)) (l := s.data.toList)
  rw [Array.length_toList] at this
  exact this
set_option maxRecDepth 100000 in
set_option maxHeartbeats 4000000 in
theorem City_c (s : ByteArray) (w : World) (hs : s.size ≤ maxLen) (hM : Mx w) : Calls Tryz.prog 104 #[.string s] w fun e w' => e = .returned (.tuple #[.string (ctB s), .int .i64 (ctE s)]) ∧ Below w.heap.size w w' := by
  cases hb : nameB s
  · have h1 : ctB s = ⟨#[]⟩ := by unfold ctB; rw [hb]; rfl
    have h2 : ctE s = 5 := by unfold ctE; rw [hb]; rfl
    rw [h1, h2]
    have HN := hideH (Name_c s w hs)
    rw [hb] at HN
    clear h1 h2 hb
    go_enter Tryz.func104, Tryz.ntmps104
    go_wp2_with fail
    refine HN.out.mono ?_
    rintro e w1 ⟨rfl, rfl⟩
    go_wp2_with fail
    go_ret2
    exact ⟨rfl, Below.refl _ _⟩
  · obtain ⟨k, hk, hks, hd⟩ := last_cut s
    have n1 := (nameB_12 hb).2
    have h1 : ctB s = ⟨((s.data.toList.drop k).map spc).toArray⟩ := by unfold ctB cty; rw [hb, hd]; rfl
    have h2 : ctE s = 0 := by unfold ctE; rw [hb]; rfl
    rw [h1, h2]
    have HN := hideH (Name_c s w hs)
    rw [hb] at HN
    have HL := hideH (Tryz.strings_LastIndexByte s 47 (by omega) w)
    rw [show Lib.lastIndexByte s 47 = (k : Int) - 1 by omega] at HL
    obtain ⟨m, hm⟩ := hM
    have HR := hideH (Tryz.strings_ReplaceAll (s.extract k s.size) ⟨#[95]⟩ ⟨#[32]⟩ m w (by rw [ByteArray.size_extract]; omega) hm (by decide) (by have := cnt_le (s.extract k s.size); have e1 : (⟨#[32]⟩ : ByteArray).size = 1 := rfl; rw [e1]; rw [ByteArray.size_extract] at this ⊢; omega))
    rw [ext_end s hks, show (⟨#[95]⟩ : ByteArray).data.toList = [95] from rfl, show (⟨#[32]⟩ : ByteArray).data.toList = [32] from rfl, rep_spc] at HR
    generalize (⟨((s.data.toList.drop k).map spc).toArray⟩ : ByteArray) = CB at *
    clear h1 h2 hb hd hk hm
    go_enter Tryz.func104, Tryz.ntmps104
    go_wp2_with fail
    refine HN.out.mono ?_
    rintro e w1 ⟨rfl, rfl⟩
    go_wp2_with fail
    refine HL.out.mono ?_
    rintro e w1 ⟨rfl, rfl⟩
    go_wp2_with fail
    refine HR.out.mono ?_
    rintro e w2 ⟨rfl, hw2⟩
    go_wp2_with fail
    go_ret2
    exact ⟨rfl, hw2⟩
/-- what a zone is called by its city -/
def nmCity (X : Wd) (loc zn : ByteArray) : ByteArray := if (!(btT X.bs X.bn loc (nmId X.D zn)).toList.isEmpty) = true then btT X.bs X.bn loc (nmId X.D zn) else ctB (nmId X.D zn)
set_option maxRecDepth 100000 in
set_option maxHeartbeats 4000000 in
theorem byCity_n (X : Wd) (p : Nat) (loc zn : ByteArray) (t : Int) (w : World) (hE : CEnv w X p zn) (h0 : zonE X.D zn = 0) : Calls Tryz.prog 64 #[cv p loc zn t] w fun e w' => e = .returned (.string (nmCity X loc zn)) ∧ Below w.heap.size w w' := by
  have HE := hideH hE
  have HB := hideH ((Below.refl _ w).alloc (Nat.le_refl _) (cvC p loc zn t))
  have HC := hideH (World.alloc_heap_new w (cvC p loc zn t))
  obtain ⟨c0, c1, c2, c3⟩ := cells4n (World.alloc_heap_new w (cvC p loc zn t))
  have HI := hideH (fun v (hv : Below w.heap.size w v) => byID_n X p loc zn t v (HE.out.on hv) h0)
  obtain ⟨k, hk, hkz⟩ := zonE_in h0
  have hsz : (nmId X.D zn).size ≤ maxLen := by unfold nmId; rw [hk]; exact hE.ne.ue.dfit.znm k hkz
  have HX := hideH (fun v (hv : Below w.heap.size w v) => textN_c X p loc zn (nmId X.D zn) t v (HE.out.on hv))
  have HY := hideH (fun v (hv : Below w.heap.size w v) => City_c (nmId X.D zn) v hsz (HE.out.on hv).ne.ue.env.mx)
  obtain ⟨V, hV⟩ : ∃ V, V = nmCity X loc zn := ⟨_, rfl⟩
  rw [← hV]
  have HV := hideH hV
  unfold nmCity at HV
  clear hV hE hk hkz hsz h0 k
  generalize nmId X.D zn = nm at *
  generalize btT X.bs X.bn loc nm = R at *
  generalize ctB nm = cb at *
  generalize ctE nm = ce at *
  go_enter Tryz.func64, Tryz.ntmps64
  go_wp2_with fail
  refine (HI.out _ HB.out).mono ?_
  rintro e w1 ⟨rfl, hw1⟩
  have H1 := hideH (bthen HB.out hw1)
  have C1 := hideH (heap_on HC.out hw1)
  clear hw1 HI HC c0 c1 c2 c3
  obtain ⟨c0, c1, c2, c3⟩ := cells4n C1.out
  go_wp2_with fail
  refine (HX.out _ H1.out).mono ?_
  rintro e w2 ⟨rfl, hw2⟩
  have H2 := hideH (bthen H1.out hw2)
  clear hw2 HX C1 c0 c1 c2 c3
  cases hb : (!R.toList.isEmpty)
  · rw [hb, if_neg (by decide)] at HV
    clear hb
    go_wp2_with fail
    refine (HY.out _ H2.out).mono ?_
    rintro e w3 ⟨rfl, hw3⟩
    go_wp2_with fail
    go_ret
    exact ⟨ret_str HV.out.symm, bthen H2.out hw3⟩
  · rw [hb, if_pos rfl] at HV
    clear hb
    go_wp2_with fail
    go_ret
    exact ⟨ret_str HV.out.symm, H2.out⟩
end Go.Proofs.YtfjjdicgekgbeaaGreatDoor
