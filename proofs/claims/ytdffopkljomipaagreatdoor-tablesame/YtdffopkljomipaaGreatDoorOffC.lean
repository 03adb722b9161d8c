/- The contract of off.At. -/
import Derived.Test.YtdffopkljomipaaGreatDoorOffB
import Derived.Lib.ReplaceLaws
import Derived.Deep.RegionWith
namespace Go.Proofs.YtdffopkljomipaaGreatDoor
open Go Go.RowKit Go.Maps
set_option linter.unusedVariables false

theorem chk_all {D : Dt} (h : chkE D = 0) : (few1 D ∧ few2 D ∧ few3 D) ∧ rulE D = 0 ∧ ersOK D ∧ fmts D := by
  unfold chkE at h
  split at h
  · rename_i hf
    split at h
    · split at h
      · split at h
        · split at h
          · rename_i hr
            split at h
            · rename_i he
              split at h
              · rename_i hm
                exact ⟨few_all hf, hr, he, hm⟩
              · cases h
            · cases h
          · rename_i hr
            exact absurd h hr
        · cases h
      · cases h
    · cases h
  · cases h
theorem chk_rule {D : Dt} (h : chkE D = 0) {j i : Nat} (hj : j < D.ns) (hi : i < (D.ss j).n) : rchk ((D.ss j).rs i) = 0 := fstE_all (fstE_all (chk_all h).2.1 j hj) i hi
theorem rchk_let {r : Rl} (h : rchk r = 0) : r.s.size ≤ 12 := by
  rcases rchk_cases r with ⟨_, h1⟩ | ⟨_, h'⟩
  · omega
  · rcases h' with ⟨h1, h2⟩ | ⟨_, h'⟩
    · omega
    · rcases h' with ⟨_, h1⟩ | ⟨h1, _⟩
      · omega
      · unfold letS at h1
        simp at h1
        exact h1.1
theorem ebd {x : Er} {n : Int} (h : ebnd x n = true) : -50400 ≤ x.std ∧ x.std ≤ 50400 ∧ -1 ≤ x.set ∧ x.set < n ∧ 0 ≤ x.sv ∧ (0 ≤ x.set ∧ x.sv ≤ 0 ∨ x.set < 0 ∧ x.sv ≤ 7200) := by unfold ebnd at h; simpa using h
theorem chk_era {D : Dt} (h : chkE D = 0) {j i : Nat} (hj : j < D.nz) (hi : i < (D.zs j).n) : ebnd ((D.zs j).es i) D.ns = true := (((chk_all h).2.2.1 j hj).1 i hi).1
theorem chk_fmt {D : Dt} (h : chkE D = 0) {j i : Nat} (hj : j < D.nz) (hi : i < (D.zs j).n) : ((D.zs j).es i).fm.size ≤ 12 := by
  have := (chk_all h).2.2.2 j hj i hi
  unfold fmtB at this
  simp at this
  exact this.1.2
theorem eraI_lt {es : Nat → Er} {n : Nat} (t : Int) (h : 1 ≤ n) : eraI es n t < n := by
  unfold eraI
  cases hf : (List.range n).find? fun j => decide (t < (es j).un) with
  | none => simp; omega
  | some j => exact List.mem_range.1 (List.mem_of_find?_eq_some hf)
theorem rulS_in {D : Dt} (h : chkE D = 0) {j : Nat} (hj : j < D.ns) (std t : Int) : 0 ≤ rulS (D.ss j).rs (D.ss j).n std t ∧ rulS (D.ss j).rs (D.ss j).n std t ≤ 7200 := by
  unfold rulS
  split
  · rename_i he
    obtain ⟨k, k1, k2, -, -, -⟩ := last_which _ _ _ _ he
    rw [k2]
    have := bnd_of (rchk_bnd (chk_rule h hj k1))
    exact ⟨this.2.2.2.2.2.2.2.1, this.2.2.2.2.2.2.2.2⟩
  · omega
theorem rulL_in {D : Dt} (h : chkE D = 0) {j : Nat} (hj : j < D.ns) (std t : Int) : (rulL (D.ss j).rs (D.ss j).n std t).size ≤ 12 := by
  unfold rulL
  split
  · rename_i he
    obtain ⟨k, k1, k2, -, -, -⟩ := last_which _ _ _ _ he
    rw [k2]
    exact rchk_let (chk_rule h hj k1)
  · exact fstL_size fun i hi => rchk_let (chk_rule h hj hi)

/-- the era that has a time; what is saved then, and the letter -/
def offX (D : Dt) (k : Nat) (t : Int) : Er := (D.zs k).es (eraI (D.zs k).es (D.zs k).n t)
def offS (D : Dt) (k : Nat) (t : Int) : Int := if 0 ≤ (offX D k t).set then rulS (D.ss (offX D k t).set.toNat).rs (D.ss (offX D k t).set.toNat).n (offX D k t).std t else (offX D k t).sv
def offL (D : Dt) (k : Nat) (t : Int) : ByteArray := if 0 ≤ (offX D k t).set then rulL (D.ss (offX D k t).set.toNat).rs (D.ss (offX D k t).set.toNat).n (offX D k t).std t else ⟨#[]⟩
def offA (D : Dt) (k : Nat) (t : Int) : ByteArray := ⟨(Lib.replace (offX D k t).fm.data.toList pct (offL D k t).data.toList 1).toArray⟩
/-- an offset -/
structure Of where
  tot : Int
  sv : Int
  ab : ByteArray
abbrev Of.v (x : Of) : Value := .agg #[.int .i64 x.tot, .int .i64 x.sv, .string x.ab]
def oZ : Of := ⟨0, 0, ⟨#[]⟩⟩
def offR (D : Dt) (k : Nat) (t : Int) : Of := ⟨(offX D k t).std + offS D k t, offS D k t, offA D k t⟩
/-- what off.At answers -/
def atsE (D : Dt) (s : ByteArray) (t : Int) : Int := if zonE D s = 0 then (if 0 ≤ t ∧ t < 1893456000 then 0 else 3) else zonE D s
def atsR (D : Dt) (s : ByteArray) (t : Int) : Of := if zonE D s = 0 then (if 0 ≤ t ∧ t < 1893456000 then offR D (zonR D s).toNat t else oZ) else oZ
theorem zon_ok {D : Dt} {s : ByteArray} (h : zonE D s = 0) : chkE D = 0 ∧ ∃ k : Nat, zonR D s = k ∧ k < D.nz := by
  unfold zonE at h
  split at h
  · rename_i hc
    have hi := lead_in _ _ h
    refine ⟨hc, (leadK D (D.nl + 1) s).1.toNat, ?_, by omega⟩
    unfold zonR
    rw [if_pos hc, if_pos h]
    omega
  · rename_i hc
    exact absurd h hc
theorem rep_room {x y : ByteArray} (hx : x.size ≤ 12) (hy : y.size ≤ 12) : x.size + Lib.countB x ⟨#[37, 115]⟩ * y.size ≤ 140737488355328 := by
  have h2 : (ByteArray.mk #[37, 115]).size = 2 := rfl
  have h := Lib.countB_mul_le ⟨#[37, 115]⟩ (by decide) x.size x (Nat.le_refl _)
  rw [h2] at h
  have : Lib.countB x ⟨#[37, 115]⟩ * y.size ≤ 6 * 12 := Nat.mul_le_mul (by omega) hy
  omega

/-- off.At's own boxes -/
theorem two_boxes (w : World) (o1 o2 : Obj) : Below w.heap.size w ((w.alloc o1).alloc o2) ∧ ((w.alloc o1).alloc o2).heap[w.heap.size]? = some o1 ∧ ((w.alloc o1).alloc o2).heap[w.heap.size + 1]? = some o2 := by
  refine ⟨((Below.refl _ w).alloc (Nat.le_refl _) _).alloc (by simp) _, ?_, ?_⟩
  · rw [Below.heap_alloc _ _ _ (by simp)]; exact World.alloc_heap_new _ _
  · have := World.alloc_heap_new (w.alloc o1) o2
    rwa [World.size_alloc] at this
abbrev dC (D : Dt) : Array Value := #[.slice D.sa D.ns D.sc, .slice D.za D.nz D.zc, .slice D.la D.nl D.lc]
set_option maxRecDepth 100000 in
set_option maxHeartbeats 2000000 in
theorem At_bare (D : Dt) (s : ByteArray) (t : Int) (k : Nat) (w : World) (hE : Env w D) (hF : D.fits) (hs : s.size ≤ maxLen) (h0 : zonE D s = 0) (hk : zonR D s = k) (hkz : k < D.nz) (hc : chkE D = 0) (t0 : 0 ≤ t) (t1 : t < 1893456000) (hset : (offX D k t).set < 0) :
    Calls Tryz.prog 13 #[D.v, .string s, .int .i64 t] w fun e w' => e = .returned (.tuple #[(offR D k t).v, .int .i64 0]) ∧ Below w.heap.size w w' := by
  have HE := hideH hE
  have HF := hideH hF
  have bx := two_boxes w (.cells (dC D) 26) (.cells #[.int .i64 0, .int .i64 0, .string ⟨#[]⟩] 32)
  obtain ⟨W0, hW0⟩ : ∃ W0, W0 = (w.alloc (.cells (dC D) 26)).alloc (.cells #[.int .i64 0, .int .i64 0, .string ⟨#[]⟩] 32) := ⟨_, rfl⟩
  rw [← hW0] at bx
  have HB := hideH bx.1
  have HC := hideH bx.2.1
  have HO := hideH bx.2.2
  have HEra : Hid (∀ v, Below w.heap.size w v → Calls Tryz.prog 24 #[.agg #[.string (D.zs k).nm, .slice (D.zs k).a (D.zs k).n (D.zs k).c], .int .i64 t] v fun e w' => e = .returned (offX D k t).v ∧ Below v.heap.size v w') := fun v hv =>
    eraAt_c (D.zs k) t v ((chk_all hc).1.2.2 k hkz).1 (HF.out.zn k hkz) ((HE.out.on hv).dat.eras k hkz)
  have hlt := eraI_lt (es := (D.zs k).es) t ((chk_all hc).1.2.2 k hkz).1
  have hbd := ebd (chk_era hc hkz hlt)
  have hfm := chk_fmt hc hkz hlt
  change -50400 ≤ (offX D k t).std ∧ (offX D k t).std ≤ 50400 ∧ -1 ≤ (offX D k t).set ∧ (offX D k t).set < D.ns ∧ 0 ≤ (offX D k t).sv ∧ (0 ≤ (offX D k t).set ∧ (offX D k t).sv ≤ 0 ∨ (offX D k t).set < 0 ∧ (offX D k t).sv ≤ 7200) at hbd
  change (offX D k t).fm.size ≤ 12 at hfm
  have HZ : Hid (∀ v, Below w.heap.size w v → Calls Tryz.prog 15 #[D.v, .string s] v fun e w' => e = .returned (.tuple #[.int .i64 k, .int .i64 0]) ∧ Below v.heap.size v w') := fun v hv => by
    have := DZone_c D s v (HE.out.on hv) HF.out hs
    rwa [hk, h0] at this
  have eL : offL D k t = ⟨#[]⟩ := by unfold offL; rw [if_neg (by omega)]
  have eS : offS D k t = (offX D k t).sv := by unfold offS; rw [if_neg (by omega)]
  have hL12 : (offL D k t).size ≤ 12 := by rw [eL]; exact Nat.zero_le _
  have HRep : Hid (∀ v, Below w.heap.size w v → Calls Tryz.prog 26 #[.string (offX D k t).fm, .string ⟨#[37, 115]⟩, .string (offL D k t), .int .i64 1] v fun e w' => e = .returned (.string (offA D k t)) ∧ Below v.heap.size v w') := fun v hv => by
    obtain ⟨m, hm⟩ := (HE.out.on hv).mx
    exact Tryz.strings_Replace _ _ _ 1 m v (by omega) hm (by decide) (rep_room hfm hL12)
  have HV : Hid ((offR D k t).v = .agg #[.int .i64 ((offX D k t).std + (offX D k t).sv), .int .i64 (offX D k t).sv, .string (offA D k t)]) := by show (Of.v ⟨_, _, _⟩) = _; rw [eS]
  rw [HV.out]
  rw [eL] at HRep
  clear eL eS hL12 hE hF hs h0 hk hc bx hlt hfm
  generalize offX D k t = x at *
  generalize offA D k t = A at *
  clear HV
  go_enter Tryz.func13, Tryz.ntmps13
  go_wp2_with fail
  simp only [dC] at hW0
  simp only [← hW0]
  clear hW0
  obtain ⟨b1, b2, b3, b4, b5, b6⟩ := hbd
  have b7 : x.sv ≤ 7200 := by omega
  clear b6
  refine (HZ.out _ HB.out).mono ?_
  rintro e w1 ⟨rfl, hw1⟩
  have H1 := hideH (bthen HB.out hw1)
  have C1 := hideH (heap_on HC.out hw1)
  have O1 := hideH (heap_on HO.out hw1)
  clear hw1 HB HC HO HZ
  obtain ⟨c0, c1, c2⟩ := cells3 C1.out
  rcases (HE.out.on H1.out).dat.zones with h0 | ⟨b, off, hsa, hcs⟩
  · omega
  obtain ⟨d0, d1⟩ := hcs k hkz
  have hk0 : decide ((k : Int) < 0) = false := by simp
  have hkn : decide (D.nz ≤ k) = false := by simp; omega
  clear hcs
  go_wp2_with fail
  clear c0 c1 c2 d0 d1 hk0 hkn
  refine (HEra.out _ H1.out).mono ?_
  rintro e w2 ⟨rfl, hw2⟩
  have H2 := hideH (bthen H1.out hw2)
  have C2 := hideH (heap_on C1.out hw2)
  have O2 := hideH (heap_on O1.out hw2)
  clear hw2 H1 C1 O1 HEra
  go_wp2_with fail
  obtain ⟨w3, hw3⟩ : ∃ w3, w3 = w2.alloc (.cells #[.int .i64 x.std, .int .i64 x.set, .int .i64 x.sv, .string x.fm, .int .i64 x.un] 50) := ⟨_, rfl⟩
  have hb3 := hideH ((Below.refl _ w2).alloc (Nat.le_refl _) (.cells #[.int .i64 x.std, .int .i64 x.set, .int .i64 x.sv, .string x.fm, .int .i64 x.un] 50))
  have X3 : Hid (w3.heap[w2.heap.size]? = some (.cells #[.int .i64 x.std, .int .i64 x.set, .int .i64 x.sv, .string x.fm, .int .i64 x.un] 50)) := by show _ = _; rw [hw3]; exact World.alloc_heap_new _ _
  have H3 : Hid (Below w.heap.size w w3) := by show Below _ _ _; rw [hw3]; exact bthen H2.out hb3.out
  have O3 : Hid (w3.heap[w.heap.size + 1]? = some (.cells #[.int .i64 0, .int .i64 0, .string ⟨#[]⟩] 32)) := by show _ = _; rw [hw3]; exact heap_on O2.out hb3.out
  simp only [← hw3]
  clear hw3 hb3 H2 C2 O2
  refine (HRep.out _ H3.out).mono ?_
  rintro e w4 ⟨rfl, hw4⟩
  have H4 := hideH (bthen H3.out hw4)
  obtain ⟨x0, x1, x2, x3, x4⟩ := cells5 (heap_on X3.out hw4)
  have o4 := heap_on O3.out hw4
  have O4 := hideH o4
  obtain ⟨p0, p1, p2⟩ := cells3 o4
  have g0 := frozen3 o4 0
  have g1 := frozen3 o4 1
  have g2 := frozen3 o4 2
  clear hw4 H3 X3 O3 HRep o4
  go_wp2_with fail
  refine bodyPost_ret (v := .tuple #[.agg #[.int .i64 (x.std + x.sv), .int .i64 x.sv, .string A], .int .i64 0]) ?_ rfl ⟨rfl, ?_⟩
  · have q0 := setCell_at (o := 2) (setCell_at (o := 1) (setCell_at (o := 0) O4.out (.int .i64 (x.std + x.sv))) (.int .i64 x.sv)) (.string A)
    obtain ⟨y0, y1, y2⟩ := cells3 q0
    simp [results, Tryz.results13, go_sem, y0, y1, y2]
  · exact ((H4.out.setCell (p := ⟨w.heap.size + 1, 0, none⟩) (by simp) _).setCell (p := ⟨w.heap.size + 1, 1, none⟩) (by simp) _).setCell (p := ⟨w.heap.size + 1, 2, none⟩) (by simp) _
end Go.Proofs.YtdffopkljomipaaGreatDoor
