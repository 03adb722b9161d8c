/- Package back: check, Words. -/
import Derived.Test.YtfjjdicgekgbeaaGreatDoorNamesDAll
import Derived.Test.YtfjjdicgekgbeaaGreatDoorNamesS
import Derived.Test.YtfjjdicgekgbeaaGreatDoorUsesGAll
import Derived.Test.YtfjjdicgekgbeaaGreatDoorAppRow
import Derived.Test.YtfjjdicgekgbeaaGreatDoorRefApAll
import Derived.Laws.OwnMore
namespace Go.Proofs.YtfjjdicgekgbeaaGreatDoor
open Go Go.RowKit Go.Maps
set_option linter.unusedVariables false

/-- the data of the world that stands in: one zone, of one era -/
def siD (eb zb : Nat) : Dt := ⟨none, 0, 0, fun _ => ⟨⟨#[]⟩, none, 0, 0, fun _ => ⟨0, 0, 0, 0, 0, 0, 0, 0, ⟨#[]⟩⟩⟩, some ⟨zb, 0, none⟩, 1, 1, fun _ => ⟨⟨#[88]⟩, some ⟨eb, 0, none⟩, 1, 1, fun _ => ⟨0, -1, 0, ⟨#[88]⟩, 1893456000⟩⟩, none, 0, 0, fun _ => ⟨⟨#[]⟩, ⟨#[]⟩⟩⟩
abbrev siW (eb zb : Nat) (X : Wd) : Wd := ⟨siD eb zb, none, 0, 0, fun _ => ⟨⟨#[]⟩, 0, 0, ⟨#[]⟩⟩, X.ba, X.bn, X.bc, X.bs⟩
set_option maxRecDepth 100000 in
theorem si_u (eb zb : Nat) : uchk (siD eb zb) 0 (fun _ => ⟨⟨#[]⟩, 0, 0, ⟨#[]⟩⟩) = 0 := by kernel_rfl
set_option maxRecDepth 100000 in
theorem si_z (eb zb : Nat) : zonE (siD eb zb) ⟨#[88]⟩ = 0 := by kernel_rfl
/-- Name's errors, but those of zones -/
def bwE (X : Wd) (loc : ByteArray) (t p : Int) : Int := if nchk X = 0 then (if 1 ≤ p ∧ p ≤ 4 then (if btE X.bs X.bn loc = 0 then (if 0 ≤ t ∧ t < 1893456000 then 0 else 3) else 4) else 8) else nchk X
theorem bw_si {X : Wd} (eb zb : Nat) (h : nchk X = 0) (loc : ByteArray) (t p : Int) : nmE (siW eb zb X) loc ⟨#[88]⟩ t p = bwE X loc t p := by
  have hn : nchk (siW eb zb X) = 0 := by
    unfold nchk
    show (if uchk (siD eb zb) 0 (fun _ => ⟨⟨#[]⟩, 0, 0, ⟨#[]⟩⟩) = 0 then bchk X.bn X.bs else _) = 0
    rw [if_pos (si_u eb zb)]
    exact (nchk_ok h).2
  unfold nmE bwE
  rw [if_pos hn, if_pos h]
  show (if 1 ≤ p ∧ p ≤ 4 then (if btE X.bs X.bn loc = 0 ∧ zonE (siD eb zb) ⟨#[88]⟩ = 0 then _ else _) else _) = _
  simp only [si_z eb zb, and_true]
theorem bw_ok {X : Wd} {loc : ByteArray} {t p : Int} (h : bwE X loc t p = 0) : nchk X = 0 ∧ (1 ≤ p ∧ p ≤ 4) ∧ btE X.bs X.bn loc = 0 ∧ 0 ≤ t ∧ t < 1893456000 := by
  unfold bwE at h
  split at h
  · rename_i h0
    split at h
    · rename_i h1
      split at h
      · rename_i h2
        split at h
        · rename_i h3; exact ⟨h0, h1, h2, h3.1, h3.2⟩
        · cases h
      · cases h
    · cases h
  · rename_i h0; exact absurd h h0
abbrev siE : Array Value := #[.int .i64 0, .int .i64 (-1), .int .i64 0, .string ⟨#[88]⟩, .int .i64 1893456000]
abbrev siZ (eb : Nat) : Array Value := #[.string ⟨#[88]⟩, .slice (some ⟨eb, 0, none⟩) 1 1]
theorem si_env {w : World} {eb zb : Nat} {X : Wd} {t1 t2 : TypeId} (hE : NEnv w X) (h1 : w.heap[eb]? = some (.cells siE t1)) (h2 : w.heap[zb]? = some (.cells (siZ eb) t2)) : NEnv w (siW eb zb X) := by
  refine ⟨⟨⟨hE.ue.env.laid, hE.ue.env.mx, ⟨.inl rfl, fun j hj => absurd hj (Nat.not_lt_zero _), ?_, fun j hj => ?_, .inl rfl⟩⟩, ?_, Nat.zero_le _, Nat.le_refl _, .inl rfl, fun j hj => absurd hj (Nat.not_lt_zero _)⟩, hE.bl, hE.bcap, hE.bat, hE.bf⟩
  · refine .inr ⟨zb, 0, rfl, fun j hj => ?_⟩
    obtain rfl : j = 0 := Nat.lt_one_iff.1 hj
    constructor <;> simp [World.cell?, h2, siD]
  · refine .inr ⟨eb, 0, rfl, fun i hi => ?_⟩
    obtain rfl : i = 0 := Nat.lt_one_iff.1 hi
    refine ⟨?_, ?_, ?_, ?_, ?_⟩ <;> simp [World.cell?, h1, siD]
  · exact ⟨Nat.zero_le _, by show 1 ≤ maxLen; unfold maxLen; omega, Nat.zero_le _, fun j hj => absurd hj (Nat.not_lt_zero _), fun j hj => absurd hj (Nat.not_lt_zero _), fun j hj => absurd hj (Nat.not_lt_zero _), fun j hj => by show 1 ≤ maxLen; unfold maxLen; omega, fun j hj => by show 1 ≤ maxLen; unfold maxLen; omega, fun j hj i hi => by show 1 ≤ maxLen; unfold maxLen; omega, fun j hj => absurd hj (Nat.not_lt_zero _), fun j hj => absurd hj (Nat.not_lt_zero _)⟩
set_option maxRecDepth 100000 in
set_option maxHeartbeats 8000000 in
theorem Bcheck_c (X : Wd) (loc : ByteArray) (t p : Int) (w : World) (hE : NEnv w X) : Calls Tryz.prog 19 #[X.v, .string loc, .int .i64 t, .int .i64 p] w fun e w' => e = .returned (.int .i64 (bwE X loc t p)) ∧ Below w.heap.size w w' := by
  have HE := hideH hE
  have HB := hideH ((Below.refl _ w).alloc (Nat.le_refl _) (.cells X.cs 30))
  have HX := hideH (World.alloc_heap_new w (.cells X.cs 30))
  obtain ⟨c0, c1, c2, c3, c4⟩ := cells5n HX.out
  have HK := hideH (fun v (hv : Below w.heap.size w v) => NCheck_c X v (HE.out.on hv))
  by_cases h : nchk X = 0
  · have HS := hideH (fun eb zb v (hv : NEnv v (siW eb zb X)) => NName_c (siW eb zb X) loc ⟨#[88]⟩ t p v hv (by show 1 ≤ maxLen; unfold maxLen; omega))
    have HW := hideH (fun eb zb => bw_si eb zb h loc t p)
    rw [h] at HK
    clear h hE
    generalize bwE X loc t p = V at *
    go_enter Tryz.func19, Tryz.ntmps19
    go_wp2_with fail
    refine (HK.out _ HB.out).mono ?_
    rintro e w1 ⟨rfl, hw⟩
    have H1 := hideH (bthen HB.out hw)
    have C1 := hideH (heap_on HX.out hw)
    clear hw c0 c1 c2 c3 c4 HX HB HK
    obtain ⟨c0, c1, c2, c3, c4⟩ := cells5n C1.out
    have bA := (Below.refl _ w1).alloc (Nat.le_refl _) (.cells siE 76)
    obtain ⟨A, hA⟩ : ∃ A, A = w1.alloc (.cells siE 76) := ⟨_, rfl⟩
    rw [← hA] at bA
    have xA : A.heap[w1.heap.size]? = some (.cells siE 76) := by rw [hA]; exact World.alloc_heap_new _ _
    have sA : A.heap.size = w1.heap.size + 1 := by rw [hA]; simp
    have bB := (Below.refl _ A).alloc (Nat.le_refl _) (.cells (siZ w1.heap.size) 62)
    obtain ⟨B, hB⟩ : ∃ B, B = A.alloc (.cells (siZ w1.heap.size) 62) := ⟨_, rfl⟩
    rw [← hB] at bB
    have xB : B.heap[w1.heap.size + 1]? = some (.cells (siZ w1.heap.size) 62) := by rw [hB, ← sA]; exact World.alloc_heap_new _ _
    have sB : B.heap.size = w1.heap.size + 2 := by rw [hB]; simp [sA]
    have bC := (Below.refl _ B).alloc (Nat.le_refl _) (.cells (siZ w1.heap.size) 62)
    obtain ⟨C, hC⟩ : ∃ C, C = B.alloc (.cells (siZ w1.heap.size) 62) := ⟨_, rfl⟩
    rw [← hC] at bC
    have xC : C.heap[w1.heap.size + 2]? = some (.cells (siZ w1.heap.size) 62) := by rw [hC, ← sB]; exact World.alloc_heap_new _ _
    have sC : C.heap.size = w1.heap.size + 3 := by rw [hC]; simp [sB]
    have bD := (Below.refl _ C).alloc (Nat.le_refl _) (.cells (siW w1.heap.size (w1.heap.size + 2) X).cs 30)
    obtain ⟨D, hD⟩ : ∃ D, D = C.alloc (.cells (siW w1.heap.size (w1.heap.size + 2) X).cs 30) := ⟨_, rfl⟩
    rw [← hD] at bD
    have xD : D.heap[w1.heap.size + 3]? = some (.cells (siW w1.heap.size (w1.heap.size + 2) X).cs 30) := by rw [hD, ← sC]; exact World.alloc_heap_new _ _
    have BD := hideH (bthen (bthen (bthen bA bB) bC) bD)
    have ED : Hid (NEnv D (siW w1.heap.size (w1.heap.size + 2) X)) := si_env (HE.out.on (bthen H1.out BD.out)) (heap_on (heap_on (heap_on xA bB) bC) bD) (heap_on xC bD)
    have XD := hideH xD
    have XB := hideH (heap_on (heap_on xB bC) bD)
    have xb : B.cell? ⟨w1.heap.size + 1, 0, none⟩ = some (.string ⟨#[88]⟩) ∧ B.cell? ⟨w1.heap.size + 1, 1, none⟩ = some (.slice (some ⟨w1.heap.size, 0, none⟩) 1 1) := by constructor <;> simp [World.cell?, xB]
    obtain ⟨xb0, xb1⟩ := xb
    have cc : C.cell? ⟨w.heap.size, 4, none⟩ = some (.slice X.ba X.bn X.bc) := cell_on (cell_on (cell_on c4 bA) bB) bC
    have hwl : w.heap.size < w1.heap.size := (Array.getElem?_eq_some_iff.1 C1.out).1
    have n1 : w.heap.size ≠ w1.heap.size + 1 := by omega
    have n2 : w.heap.size ≠ w1.heap.size + 1 + 1 := by omega
    have n3 : w1.heap.size + 1 ≠ w1.heap.size + 1 + 1 + 1 := by omega
    have dz : D.cell? ⟨w1.heap.size + 1, 0, none⟩ = some (.string ⟨#[88]⟩) := by simp [World.cell?, XB.out]
    rw [hC, hB, hA] at cc
    rw [hB, hA] at xb0 xb1
    rw [hD, hC, hB, hA] at dz
    simp only [siE, siZ, Wd.cs, siD] at cc xb0 xb1 dz
    clear bA bB bC bD xA xB xC xD
    go_wp2_with fail
    have HS1 : Calls Tryz.prog 20 #[(siW w1.heap.size (w1.heap.size + 2) X).v, .string loc, .string ⟨#[88]⟩, .int .i64 t, .int .i64 p] D fun e w' => e = .returned (.tuple #[.string (nmR (siW w1.heap.size (w1.heap.size + 2) X) loc ⟨#[88]⟩ t p), .int .i64 V]) ∧ Below D.heap.size D w' := by
      have := HS.out w1.heap.size (w1.heap.size + 2) D ED.out
      rw [HW.out] at this
      exact this
    rw [hD, hC, hB, hA] at HS1
    refine HS1.mono ?_
    rintro e w2 ⟨rfl, hw⟩
    have H2 : Hid (Below w.heap.size w w2) := by
      have h1 := bthen H1.out BD.out
      rw [hD, hC, hB, hA] at h1
      exact bthen h1 hw
    clear hw HS1
    go_wp2_with fail
    go_ret
    exact ⟨rfl, H2.out⟩
  · have hq : (nchk X != 0) = true := by rw [bne_iff_ne]; exact h
    have hv : bwE X loc t p = nchk X := by unfold bwE; rw [if_neg h]
    rw [hv]
    clear h hv hE
    generalize nchk X = K at *
    go_enter Tryz.func19, Tryz.ntmps19
    go_wp2_with fail
    refine (HK.out _ HB.out).mono ?_
    rintro e w1 ⟨rfl, hw⟩
    go_wp2_with fail
    go_ret
    exact ⟨rfl, bthen HB.out hw⟩
end Go.Proofs.YtfjjdicgekgbeaaGreatDoor

/- Package back: Words, called. -/
namespace Go.Proofs.YtfjjdicgekgbeaaGreatDoor
open Go Go.RowKit Go.Maps
set_option linter.unusedVariables false

/-- what each zone is called -/
def wsB (X : Wd) (loc : ByteArray) (t p : Int) (j : Nat) : ByteArray := nmR X loc (X.D.zs j).nm t p
def srw (ss : Nat → ByteArray) (n : Nat) : List Value := (List.range n).map fun j => .string (ss j)
theorem srw_succ (ss : Nat → ByteArray) (n : Nat) : srw ss (n + 1) = srw ss n ++ [.string (ss n)] := by unfold srw; rw [List.range_succ]; simp
theorem srw_at (ss : Nat → ByteArray) {n j : Nat} (h : j < n) : (srw ss n)[j]? = some (.string (ss j)) := by simp [srw, h]
theorem zone_nm {X : Wd} {loc : ByteArray} {t p : Int} (h : bwE X loc t p = 0) {k : Nat} (hk : k < X.D.nz) : nmE X loc (X.D.zs k).nm t p = 0 := by
  obtain ⟨h0, h1, h2, h3, h4⟩ := bw_ok h
  exact nmE_to h0 h1 h2 (zone_told (uchk_ok (nchk_ok h0).1).1 hk).2 ⟨h3, h4⟩
def woP (X : Wd) (loc : ByteArray) (t p : Int) (w : World) (e : Ending) (w' : World) : Prop :=
  Below w.heap.size w w' ∧ ((bwE X loc t p ≠ 0 ∧ e = .returned (.tuple #[.slice none 0 0, .int .i64 (bwE X loc t p)])) ∨ (bwE X loc t p = 0 ∧ ∃ v, e = .returned (.tuple #[v, .int .i64 0]) ∧ w'.ownsRow w.heap.size 9 1 v X.D.nz (srw (wsB X loc t p) X.D.nz)))
theorem own_onB {w w' : World} {base n size : Nat} {e : TypeId} {v : Value} {xs : List Value} (h : w.ownsRow base e size v n xs) (hb : Below w.heap.size w w') : w'.ownsRow base e size v n xs :=
  ⟨h.1, h.2.imp id fun ⟨g, cap, cur, h1, h2, h3, h4⟩ => ⟨g, cap, cur, h1, h2, (hb.block g (Array.getElem?_eq_some_iff.1 h3).1).trans h3, h4⟩⟩
theorem owns_monoB {w : World} {base base' : Nat} {e : TypeId} {size : Nat} {v : Value} {n : Nat} {xs : List Value} (h : w.ownsRow base e size v n xs) (hb : base' ≤ base) : w.ownsRow base' e size v n xs :=
  ⟨h.1, h.2.imp id fun ⟨g, cap, cur, h1, h2, h3⟩ => ⟨g, cap, cur, h1, Nat.le_trans hb h2, h3⟩⟩
theorem below_ownB {base : Nat} {w W w1 : World} {n size : Nat} {e : TypeId} {v : Value} {xs : List Value} (hB : Below base w W) (hb : base ≤ w.heap.size) (h : W.ownsRow base e size v n xs) (hg : W.grownBy w1 v.ownBlock) : Below base w w1 :=
  hB.grown hg (by have := hB.size; omega) (fun k hk => (own_lt h hk).1)
theorem heap_grownB {w w' : World} {row : Option Nat} {b : Nat} {o : Obj} (h : w.heap[b]? = some o) (hg : w.grownBy w' row) (hne : some b ≠ row) : w'.heap[b]? = some o := (hg.block b (Array.getElem?_eq_some_iff.1 h).1 hne).trans h
theorem far_boxB {w : World} {base n size b : Nat} {e : TypeId} {v : Value} {xs : List Value} (h : w.ownsRow base e size v n xs) (hb : b < base) : some b ≠ v.ownBlock := fun e => by have := (own_lt h e.symm).1; omega
set_option maxRecDepth 100000 in
set_option maxHeartbeats 8000000 in
theorem Words_c (X : Wd) (loc : ByteArray) (t p : Int) (w : World) (hE : NEnv w X) : Calls Tryz.prog 7 #[X.v, .string loc, .int .i64 t, .int .i64 p] w fun e w' => woP X loc t p w e w' := by
  have HE := hideH hE
  have HB := hideH ((Below.refl _ w).alloc (Nat.le_refl _) (.cells X.cs 30))
  have HX := hideH (World.alloc_heap_new w (.cells X.cs 30))
  obtain ⟨c0, c1, c2, c3, c4⟩ := cells5n HX.out
  have HK := hideH (fun v (hv : Below w.heap.size w v) => Bcheck_c X loc t p v (HE.out.on hv))
  by_cases h : bwE X loc t p = 0
  · have HZ := hideH (fun k (hk : k < X.D.nz) => zone_nm h hk)
    have hnz : X.D.nz ≤ 5 := (chk_all (uchk_ok (nchk_ok (bw_ok h).1).1).1).1.1.2.1
    have HF := hideH hE.ue.dfit
    obtain ⟨i0, hi, hz0, hz1, hz2⟩ := info_parts info_str
    have H0 := hideH h
    rw [h] at HK
    clear h hE
    go_enter Tryz.func7, Tryz.ntmps7
    go_wp2_with fail
    refine (HK.out _ HB.out).mono ?_
    rintro e w1 ⟨rfl, hw⟩
    have H1 := hideH (bthen HB.out hw)
    have C1 := hideH (heap_on HX.out hw)
    clear hw c0 c1 c2 c3 c4 HX HB HK
    obtain ⟨c0, c1, c2, c3, c4⟩ := cells5n C1.out
    go_wp2_with fail
    go_loopw [11, 28] (fun x11 x28 v => ∃ k : Nat, k ≤ X.D.nz ∧ x28 = .int .i64 k ∧ Hid (v.ownsRow (w.heap.size + 1) 9 1 x11 k (srw (wsB X loc t p) k)) ∧ Hid (Below w.heap.size w v) ∧ Hid (v.heap[w.heap.size]? = some (.cells X.cs 30))) (fun _ x28 _ => X.D.nz - (intOf x28).toNat)
    case atStart => exact ⟨0, Nat.zero_le _, rfl, World.ownsRow_nil _ _ _ _, H1, C1⟩
    case round =>
      obtain ⟨k, hk, rfl, QO, QW, QC⟩ := hrel
      clear c0 c1 c2 c3 c4 H1 C1
      by_cases hlt : k < X.D.nz
      · rcases (HE.out.on QW.out).ue.env.dat.zones with h0 | ⟨b, off, hsa, hcs⟩
        · omega
        obtain ⟨f0, f1⟩ := hcs k hlt
        clear hcs
        have hki : (k : Int) < (X.D.nz : Int) := by omega
        have hN : ∀ v, Below w.heap.size w v → Calls Tryz.prog 20 #[X.v, .string loc, .string (X.D.zs k).nm, .int .i64 t, .int .i64 p] v fun e w' => e = .returned (.tuple #[.string (wsB X loc t p k), .int .i64 0]) ∧ Below v.heap.size v w' := fun v hv => by
          have := NName_c X loc (X.D.zs k).nm t p v (HE.out.on hv) (HF.out.znm k hlt)
          rw [HZ.out k hlt] at this
          exact this
        simp only [Wd.v, hsa] at hN
        have HN := hideH hN
        have bz := (Below.refl _ wr).alloc (Nat.le_refl _) (.cells #[.string (X.D.zs k).nm, (X.D.zs k).sl] 62)
        have BZ := hideH (bthen QW.out bz)
        have OZ := hideH (own_onB QO.out bz)
        have CZ := hideH (heap_on QC.out bz)
        obtain ⟨c0, c1, c2, c3, c4⟩ := cells5n CZ.out
        rw [hsa] at c1
        clear hN bz
        go_wp2_with fail
        refine (HN.out _ BZ.out).mono ?_
        rintro e w3 ⟨rfl, hw⟩
        have H3 := hideH (bthen BZ.out hw)
        have O3 := hideH (own_onB OZ.out hw)
        have C3 := hideH (heap_on CZ.out hw)
        clear hw c0 c1 c2 c3 c4 f0 f1 HN BZ OZ CZ
        have bs := (Below.refl _ w3).alloc (Nat.le_refl _) (.cells #[.string (wsB X loc t p k)] 9)
        have O4 := hideH (own_onB O3.out bs)
        have B4 := hideH (bthen H3.out bs)
        have C4 := hideH (heap_on C3.out bs)
        have hsz : w.heap.size + 1 ≤ w3.heap.size := (Array.getElem?_eq_some_iff.1 C3.out).1
        clear bs O3 H3 C3
        go_wp2_with (at_builtin; refine wpList_append_lies _ rfl _ _ 31 rfl (w.heap.size + 1) 9 i0 (.string ⟨#[]⟩) 1 16 Tryz.underlying31 hi hz0 hz1 hz2 rfl (by decide) _ _ _ rfl O4.out ⟨w3.heap.size, 0, none⟩ 1 1 [.string (wsB X loc t p k)] rfl rfl (cell_one_new _ _ _) (by simp [Value.oneCell']) (by decide) (by unfold maxLen; omega) (by omega) (by simp; omega) _ rfl ?_; intro g5 q5 w5 hown5 hgrow5 hat5 hl5)
        have O5 : Hid (w5.ownsRow (w.heap.size + 1) 9 1 (.slice (some ⟨g5, 0, none⟩) (k + 1) q5) (k + 1) (srw (wsB X loc t p) (k + 1))) := by
          show World.ownsRow _ _ _ _ _ _ _
          rw [srw_succ]
          exact hown5
        have B5 : Hid (Below w.heap.size w w5) := B4.out.grown hgrow5 (by have := B4.out.size; omega) (fun q hq => by have := (own_lt O4.out hq).1; omega)
        have C5 := hideH (heap_grownB C4.out hgrow5 (far_boxB O4.out (by omega)))
        clear hown5 hgrow5 hat5 hl5 O4 B4 C4
        try simp only [← hsa]
        go_roundw
        case rel => exact ⟨k + 1, by omega, by go_num, O5, B5, C5⟩
        case measure => simp [intOf]; omega
      · obtain rfl : k = X.D.nz := by omega
        have hki : ¬ ((X.D.nz : Int) < (X.D.nz : Int)) := by omega
        go_wp2_with fail
        go_ret2
        unfold woP
        exact ⟨QW.out, .inr ⟨H0.out, _, rfl, owns_monoB QO.out (by omega)⟩⟩
  · have hq : (bwE X loc t p != 0) = true := by rw [bne_iff_ne]; exact h
    have H0 := hideH h
    unfold woP
    clear h hE
    generalize bwE X loc t p = K at *
    go_enter Tryz.func7, Tryz.ntmps7
    go_wp2_with fail
    refine (HK.out _ HB.out).mono ?_
    rintro e w1 ⟨rfl, hw⟩
    go_wp2_with fail
    go_ret2
    exact ⟨bthen HB.out hw, .inl ⟨H0.out, rfl⟩⟩
/-- the names of all zones whose word that is -/
def clL (D : Dt) (ss : Nat → ByteArray) (u : List UInt8) (n : Nat) : List (List UInt8) := ((List.range n).filter fun j => (ss j).data.toList == u).map fun j => (D.zs j).nm.data.toList
theorem clL_succ (D : Dt) (ss : Nat → ByteArray) (u : List UInt8) (n : Nat) : clL D ss u (n + 1) = clL D ss u n ++ (if ((ss n).data.toList == u) = true then [(D.zs n).nm.data.toList] else []) := by
  unfold clL
  rw [List.range_succ, List.filter_append, List.map_append]
  congr 1
  cases h : ((ss n).data.toList == u) <;> simp [h]
theorem clL_len (D : Dt) (ss : Nat → ByteArray) (u : List UInt8) (n : Nat) : (clL D ss u n).length ≤ n := by
  unfold clL
  rw [List.length_map]
  refine Nat.le_trans (List.length_filter_le _ _) ?_
  simp
end Go.Proofs.YtfjjdicgekgbeaaGreatDoor
