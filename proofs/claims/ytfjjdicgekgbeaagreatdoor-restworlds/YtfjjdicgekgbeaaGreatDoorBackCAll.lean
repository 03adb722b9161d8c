/- Package back: called, Parse. -/
import Derived.Test.YtfjjdicgekgbeaaGreatDoorBackAAll
import Derived.Test.YtfjjdicgekgbeaaGreatDoorTrieGAll
import Derived.Deep.RegionHeld3
namespace Go.Proofs.YtfjjdicgekgbeaaGreatDoor
open Go Go.RowKit Go.Maps
set_option linter.unusedVariables false

/-- texts in memory -/
abbrev TxB (w : World) (a : Option Addr) (n : Nat) (ss : Nat → ByteArray) : Prop := Tri.TxA w a n ss
theorem TxB.onB {w w' : World} {a : Option Addr} {n : Nat} {ss : Nat → ByteArray} (h : TxB w a n ss) (hb : Below w.heap.size w w') : TxB w' a n ss := Tri.TxA.on h hb
theorem own_txb {w : World} {base n : Nat} {e : TypeId} {v : Value} {ss : Nat → ByteArray} (h : w.ownsRow base e 1 v n (srw ss n)) : ∃ a c, v = .slice a n c ∧ n ≤ c ∧ TxB w a n ss := by
  rcases h.2 with ⟨rfl, h0⟩ | ⟨g, cap, cur, rfl, hb, hg, hn, hm, hs, ht⟩
  · subst h0
    exact ⟨none, 0, rfl, Nat.le_refl _, .inl rfl⟩
  · refine ⟨_, cap, rfl, hn, .inr ⟨g, 0, rfl, fun j hj => ?_⟩⟩
    rw [Nat.zero_add, h.cellAt j (by omega), srw_at ss hj]
/-- a list of texts that a call has made -/
def tlP (l : List (List UInt8)) (w : World) (e : Ending) (w' : World) : Prop := ∃ v, e = .returned v ∧ w'.ownsRow w.heap.size 9 1 v l.length (l.map encStr) ∧ Below w.heap.size w w'
set_option maxRecDepth 100000 in
set_option maxHeartbeats 8000000 in
theorem Bcalled_c (D : Dt) (wa : Option Addr) (wc : Nat) (ss : Nat → ByteArray) (u : ByteArray) (w : World) (hD : DAt w D) (hn : D.nz ≤ 5) (hW : TxB w wa D.nz ss) : Calls Tryz.prog 36 #[.slice D.za D.nz D.zc, .slice wa D.nz wc, .string u] w fun e w' => tlP (srt (clL D ss u.data.toList D.nz)) w e w' := by
  have HD := hideH hD
  have HW0 := hideH hW
  obtain ⟨i0, hi, hz0, hz1, hz2⟩ := info_parts info_str
  clear hD hW
  go_enter Tryz.func36, Tryz.ntmps36
  go_wp2_with fail
  go_loopw [7, 12] (fun x7 x12 v => ∃ k : Nat, k ≤ D.nz ∧ x12 = .int .i64 k ∧ Hid (v.ownsRow w.heap.size 9 1 x7 (clL D ss u.data.toList k).length ((clL D ss u.data.toList k).map encStr)) ∧ Hid (Below w.heap.size w v)) (fun _ x12 _ => D.nz - (intOf x12).toNat)
  case atStart => exact ⟨0, Nat.zero_le _, rfl, World.ownsRow_nil _ _ _ _, Below.refl _ _⟩
  case round =>
    obtain ⟨k, hk, rfl, QO, QW⟩ := hrel
    by_cases hlt : k < D.nz
    · rcases (HD.out.on QW.out).zones with h0 | ⟨b, off, hsa, hcs⟩
      · omega
      obtain ⟨f0, f1⟩ := hcs k hlt
      rcases Tri.TxA.on HW0.out QW.out with h0 | ⟨b2, off2, hsb, hcs2⟩
      · omega
      have g0 := hcs2 k hlt
      clear hcs hcs2
      have hki : (k : Int) < (D.nz : Int) := by omega
      have hk0 : decide ((k : Int) < 0) = false := by simp
      have hkd : decide (D.nz ≤ k) = false := by simp; omega
      have bz := (Below.refl _ wr).alloc (Nat.le_refl _) (.cells #[.string (D.zs k).nm, (D.zs k).sl] 62)
      have BZ := hideH (bthen QW.out bz)
      have OZ := hideH (own_onB QO.out bz)
      have g1 := cell_on g0 bz
      obtain ⟨z0, z1⟩ := (show (wr.alloc (.cells #[.string (D.zs k).nm, (D.zs k).sl] 62)).cell? ⟨wr.heap.size, 0, none⟩ = some (.string (D.zs k).nm) ∧ (wr.alloc (.cells #[.string (D.zs k).nm, (D.zs k).sl] 62)).cell? ⟨wr.heap.size, 1, none⟩ = some ((D.zs k).sl) by constructor <;> simp)
      clear bz
      have hcl := clL_len D ss u.data.toList k
      cases hq : ((ss k).toList == u.toList)
      · have O2 : Hid ((wr.alloc (.cells #[.string (D.zs k).nm, (D.zs k).sl] 62)).ownsRow w.heap.size 9 1 u7 (clL D ss u.data.toList (k + 1)).length ((clL D ss u.data.toList (k + 1)).map encStr)) := by
          have e : clL D ss u.data.toList (k + 1) = clL D ss u.data.toList k := by
            rw [tl, tl] at hq
            rw [clL_succ, hq, if_neg (by decide), List.append_nil]
          show World.ownsRow _ _ _ _ _ _ _
          rw [e]
          exact OZ.out
        go_wp2_with fail
        try simp only [← hsa, ← hsb]
        go_roundw
        case rel => exact ⟨k + 1, by omega, by go_num, O2, BZ⟩
        case measure => simp [intOf]; omega
      · have HEq : Hid (clL D ss u.data.toList (k + 1) = clL D ss u.data.toList k ++ [(D.zs k).nm.data.toList]) := by
          show _ = _
          rw [tl, tl] at hq
          rw [clL_succ, hq, if_pos rfl]
        obtain ⟨W3, hW3⟩ : ∃ W3, W3 = wr.alloc (.cells #[.string (D.zs k).nm, (D.zs k).sl] 62) := ⟨_, rfl⟩
        rw [← hW3] at BZ OZ
        have bs := (Below.refl _ W3).alloc (Nat.le_refl _) (.cells #[.string (D.zs k).nm] 9)
        have O4 := hideH (own_onB OZ.out bs)
        have B4 := hideH (bthen BZ.out bs)
        have hs3 : W3.heap.size = wr.heap.size + 1 := by rw [hW3]; simp
        rw [hW3] at O4 B4
        have hsw := QW.out.size
        go_wp2_with (at_builtin; refine wpList_append_lies _ rfl _ _ 31 rfl w.heap.size 9 i0 (.string ⟨#[]⟩) 1 16 Tryz.underlying31 hi hz0 hz1 hz2 rfl (by decide) _ _ _ rfl O4.out ⟨wr.heap.size + 1, 0, none⟩ 1 1 [.string (D.zs k).nm] rfl rfl (by have h := cell_one_new (wr.alloc (.cells #[.string (D.zs k).nm, (D.zs k).sl] 62)) (.string (D.zs k).nm) 9; rw [World.size_alloc] at h; exact h) (by simp [Value.oneCell']) (by decide) (by unfold maxLen; omega) (by omega) (by simp; omega) _ rfl ?_; intro g5 q5 w5 hown5 hgrow5 hat5 hl5)
        have O5 : Hid (w5.ownsRow w.heap.size 9 1 (.slice (some ⟨g5, 0, none⟩) ((clL D ss u.data.toList k).length + 1) q5) (clL D ss u.data.toList (k + 1)).length ((clL D ss u.data.toList (k + 1)).map encStr)) := by
          show World.ownsRow _ _ _ _ _ _ _
          rw [HEq.out, List.map_append, List.map_singleton, enc_nm, List.length_append]
          exact hown5
        have B5 : Hid (Below w.heap.size w w5) := B4.out.grown hgrow5 (by have := B4.out.size; omega) (fun q hq => (own_lt O4.out hq).1)
        clear hown5 hgrow5 hat5 hl5 O4 B4
        refine ⟨⟨_, _, _, .int .i64 ((k : Int) + 1), ⟨k + 1, by omega, by go_num, O5, B5⟩, rfl, rfl, rfl, rfl⟩, ?_⟩
        simp [intOf]
        omega
    · obtain rfl : k = D.nz := by omega
      have hki : ¬ ((D.nz : Int) < (D.nz : Int)) := by omega
      have hcl := clL_len D ss u.data.toList D.nz
      have HS := hideH (SortS_c u7 (clL D ss u.data.toList D.nz) w.heap.size wr QO.out (by omega))
      have HL : Hid ((srt (clL D ss u.data.toList D.nz)).length = (clL D ss u.data.toList D.nz).length) := List.length_mergeSort _
      go_wp2_with fail
      refine HS.out.mono ?_
      rintro e w2 ⟨rfl, hown, hgr⟩
      have B2 := hideH (QW.out.grown hgr (by have := QW.out.size; omega) (fun q hq => (own_lt QO.out hq).1))
      have O2 := hideH hown
      clear hown hgr
      go_wp2_with fail
      go_ret
      unfold tlP
      exact ⟨_, rfl, by rw [HL.out]; exact O2.out, B2.out⟩
end Go.Proofs.YtfjjdicgekgbeaaGreatDoor

/- Package back: Parse. -/
namespace Go.Proofs.YtfjjdicgekgbeaaGreatDoor
open Go Go.RowKit Go.Maps
set_option linter.unusedVariables false

/-- how many bytes Parse takes, and what it tells -/
def prN (X : Wd) (loc : ByteArray) (t p : Int) (s : ByteArray) : Nat := (Tri.longR (Tri.trI X.D.nz (wsB X loc t p)) s).2
def prL (X : Wd) (loc : ByteArray) (t p : Int) (s : ByteArray) : List (List UInt8) := srt (clL X.D (wsB X loc t p) (s.data.toList.take (prN X loc t p s)) X.D.nz)
theorem ws_in {X : Wd} {loc : ByteArray} {t p : Int} (h : bwE X loc t p = 0) {j : Nat} (hj : j < X.D.nz) : 1 ≤ (wsB X loc t p j).size ∧ (wsB X loc t p j).size ≤ 12 := nm_in (zone_nm h hj)
theorem ws_nz {X : Wd} {loc : ByteArray} {t p : Int} (h : bwE X loc t p = 0) : X.D.nz ≤ 5 := (chk_all (uchk_ok (nchk_ok (bw_ok h).1).1).1).1.1.2.1
theorem ws_bld {X : Wd} {loc : ByteArray} {t p : Int} (h : bwE X loc t p = 0) : Tri.bldE X.D.nz (wsB X loc t p) = 0 := by
  refine Tri.bldE_ok (by have := ws_nz h; omega) fun j hj => ?_
  have := ws_in h hj
  unfold Tri.okW
  simp
  omega
theorem pr_le {X : Wd} {loc : ByteArray} {t p : Int} (h : bwE X loc t p = 0) (s : ByteArray) : prN X loc t p s ≤ s.size := (Tri.long_facts (ws_bld h) s).le
def paP (X : Wd) (loc : ByteArray) (t p : Int) (s : ByteArray) (w : World) (e : Ending) (w' : World) : Prop :=
  Below w.heap.size w w' ∧ ((bwE X loc t p ≠ 0 ∧ e = .returned (.tuple #[.int .i64 0, .slice none 0 0, .int .i64 (bwE X loc t p)])) ∨ (bwE X loc t p = 0 ∧ ∃ v, e = .returned (.tuple #[.int .i64 (prN X loc t p s), v, .int .i64 0]) ∧ w'.ownsRow w.heap.size 9 1 v (prL X loc t p s).length ((prL X loc t p s).map encStr)))
theorem Words_ok {X : Wd} {loc : ByteArray} {t p : Int} (h : bwE X loc t p = 0) (w : World) (hE : NEnv w X) : Calls Tryz.prog 7 #[X.v, .string loc, .int .i64 t, .int .i64 p] w fun e w' => ∃ a c, e = .returned (.tuple #[.slice a X.D.nz c, .int .i64 0]) ∧ X.D.nz ≤ c ∧ TxB w' a X.D.nz (wsB X loc t p) ∧ w'.ownsRow w.heap.size 9 1 (.slice a X.D.nz c) X.D.nz (srw (wsB X loc t p) X.D.nz) ∧ Below w.heap.size w w' := by
  refine (Words_c X loc t p w hE).mono ?_
  rintro e w' ⟨hb, ⟨h1, _⟩ | ⟨_, v, rfl, ho⟩⟩
  · exact absurd h h1
  · obtain ⟨a, c, rfl, hc, ht⟩ := own_txb ho
    exact ⟨a, c, rfl, hc, ht, ho, hb⟩
theorem Words_no {X : Wd} {loc : ByteArray} {t p : Int} (h : bwE X loc t p ≠ 0) (w : World) (hE : NEnv w X) : Calls Tryz.prog 7 #[X.v, .string loc, .int .i64 t, .int .i64 p] w fun e w' => e = .returned (.tuple #[.slice none 0 0, .int .i64 (bwE X loc t p)]) ∧ Below w.heap.size w w' := by
  refine (Words_c X loc t p w hE).mono ?_
  rintro e w' ⟨hb, ⟨_, rfl⟩ | ⟨h1, _⟩⟩
  · exact ⟨rfl, hb⟩
  · exact absurd h1 h
set_option maxRecDepth 100000 in
set_option maxHeartbeats 8000000 in
theorem Parse_c (X : Wd) (loc s : ByteArray) (t p : Int) (w : World) (hE : NEnv w X) (hs : s.size ≤ maxLen) : Calls Tryz.prog 18 #[X.v, .string loc, .string s, .int .i64 t, .int .i64 p] w fun e w' => paP X loc t p s w e w' := by
  have HE := hideH hE
  have HB := hideH ((Below.refl _ w).alloc (Nat.le_refl _) (.cells X.cs 30))
  have HX := hideH (World.alloc_heap_new w (.cells X.cs 30))
  obtain ⟨c0, c1, c2, c3, c4⟩ := cells5n HX.out
  by_cases h : bwE X loc t p = 0
  · have HK := hideH (fun v (hv : Below w.heap.size w v) => Words_ok h v (HE.out.on hv))
    have hnz := ws_nz h
    have HBd := hideH (fun a c v (hT : TxB v a X.D.nz (wsB X loc t p)) => Tri.Build_ok a X.D.nz c (wsB X loc t p) v (by unfold maxLen; omega) hT (fun j hj => by have := (ws_in h hj).2; unfold maxLen; omega) (ws_bld h))
    have HLg := hideH (fun ta tc v hT => Tri.Longest_c ta tc (Tri.trI X.D.nz (wsB X loc t p)) s v hs (Tri.bld_fitT (ws_bld h)) hT)
    have hnn := pr_le h s
    have HCa : Hid (∀ wa wc v, Below w.heap.size w v → TxB v wa X.D.nz (wsB X loc t p) → Calls Tryz.prog 36 #[.slice X.D.za X.D.nz X.D.zc, .slice wa X.D.nz wc, .string (s.extract 0 (prN X loc t p s))] v fun e w' => tlP (prL X loc t p s) v e w') := fun wa wc v hv hT => by
      have := Bcalled_c X.D wa wc (wsB X loc t p) (s.extract 0 (prN X loc t p s)) v (HE.out.on hv).ue.env.dat hnz hT
      rw [show (s.extract 0 (prN X loc t p s)).data.toList = s.data.toList.take (prN X loc t p s) by simp] at this
      exact this
    unfold tlP at HCa
    have H0 := hideH h
    unfold prN at hnn HCa
    unfold paP prN
    clear h hE
    unfold maxLen at hs
    generalize Tri.longR (Tri.trI X.D.nz (wsB X loc t p)) s = LG at *
    obtain ⟨l1, l2⟩ := LG
    simp only at *
    generalize Tri.tchk (Tri.trI X.D.nz (wsB X loc t p)) = TC at *
    generalize Tri.trI X.D.nz (wsB X loc t p) = TR at *
    go_enter Tryz.func18, Tryz.ntmps18
    go_wp2_with fail
    refine (HK.out _ HB.out).mono ?_
    rintro e w1 ⟨wa, wc, rfl, hwc, hT, -, hw⟩
    have H1 := hideH (bthen HB.out hw)
    have C1 := hideH (heap_on HX.out hw)
    have T1 := hideH hT
    clear hw hT hwc c0 c1 c2 c3 c4 HX HB HK
    go_wp2_with fail
    refine (HBd.out _ _ _ T1.out).mono ?_
    rintro e w2 ⟨ta, tc, rfl, htr, hw⟩
    have H2 := hideH (bthen H1.out hw)
    have C2 := hideH (heap_on C1.out hw)
    have T2 := hideH (TxB.onB T1.out hw)
    have R2 := hideH htr
    clear hw htr H1 C1 T1 HBd
    go_wp2_with fail
    refine (HLg.out _ _ _ R2.out).mono ?_
    rintro e w3 ⟨rfl, hw⟩
    have H3 := hideH (bthen H2.out hw)
    have C3 := hideH (heap_on C2.out hw)
    have T3 := hideH (TxB.onB T2.out hw)
    clear hw H2 C2 T2 R2 HLg
    obtain ⟨c0, c1, c2, c3, c4⟩ := cells5n C3.out
    have hli : (l2 : Int) ≤ (s.size : Int) := by omega
    have hl0 : (0 : Int) ≤ (l2 : Int) := by omega
    go_wp2_with fail
    go_region_held3 (fun v => v.cell? ⟨w.heap.size, 1, none⟩ = some (.slice X.D.za X.D.nz X.D.zc))
      (first | (exact c1) | (exact cell_on (w := w3.drew) c1 hw4))
      ((go_at_call 36; refine (HCa.out _ _ _ (by exact H3.out.drew) (by exact TxB.onB T3.out (Below.refl _ w3).drew)).mono ?_; rintro e w4 ⟨v4, rfl, ho4, hw4⟩))
    all_goals
      have H4 := hideH (bthen (w := w) (a := w3.drew) H3.out.drew hw4)
      have O4 := hideH ho4
      have hsz := H3.out.size
      clear hw4 ho4 c0 c1 c2 c3 c4
      go_wp2_with fail
      go_ret3
      exact ⟨H4.out, .inr ⟨H0.out, _, rfl, owns_monoB O4.out (by simp only [World.drew] at *; omega)⟩⟩
  · have HK := hideH (fun v (hv : Below w.heap.size w v) => Words_no h v (HE.out.on hv))
    have hq : (bwE X loc t p != 0) = true := by rw [bne_iff_ne]; exact h
    have H0 := hideH h
    unfold paP
    clear h hE
    generalize bwE X loc t p = K at *
    go_enter Tryz.func18, Tryz.ntmps18
    go_wp2_with fail
    refine (HK.out _ HB.out).mono ?_
    rintro e w1 ⟨rfl, hw⟩
    go_wp2_with fail
    go_ret3
    exact ⟨bthen HB.out hw, .inl ⟨H0.out, rfl⟩⟩
end Go.Proofs.YtfjjdicgekgbeaaGreatDoor
