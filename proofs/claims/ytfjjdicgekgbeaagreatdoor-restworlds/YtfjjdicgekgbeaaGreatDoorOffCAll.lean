/- The contract of off.At. -/
import Derived.Test.YtfjjdicgekgbeaaGreatDoorOffAAll
import Derived.Lib.ReplaceLaws
import Derived.Deep.RegionWith
namespace Go.Proofs.YtfjjdicgekgbeaaGreatDoor
open Go Go.RowKit Go.Maps
set_option linter.unusedVariables false

theorem chk_all {D : Dt} (h : chkE D = 0) : (few1 D ∧ few2 D ∧ few3 D) ∧ rulE D = 0 ∧ ersOK D ∧ fmts D := by
  unfold chkE at h
  split at h
  · rename_i hf
    split at h
    · split at h
      · split at h
        · split at h
          · rename_i hr
            split at h
            · rename_i he
              split at h
              · rename_i hm
                exact ⟨few_all hf, hr, he, hm⟩
              · cases h
            · cases h
          · rename_i hr
            exact absurd h hr
        · cases h
      · cases h
    · cases h
  · cases h
theorem chk_rule {D : Dt} (h : chkE D = 0) {j i : Nat} (hj : j < D.ns) (hi : i < (D.ss j).n) : rchk ((D.ss j).rs i) = 0 := fstE_all (fstE_all (chk_all h).2.1 j hj) i hi
theorem rchk_let {r : Rl} (h : rchk r = 0) : r.s.size ≤ 12 := by
  rcases rchk_cases r with ⟨_, h1⟩ | ⟨_, h'⟩
  · omega
  · rcases h' with ⟨h1, h2⟩ | ⟨_, h'⟩
    · omega
    · rcases h' with ⟨_, h1⟩ | ⟨h1, _⟩
      · omega
      · unfold letS at h1
        simp at h1
        exact h1.1
theorem ebd {x : Er} {n : Int} (h : ebnd x n = true) : -50400 ≤ x.std ∧ x.std ≤ 50400 ∧ -1 ≤ x.set ∧ x.set < n ∧ 0 ≤ x.sv ∧ (0 ≤ x.set ∧ x.sv ≤ 0 ∨ x.set < 0 ∧ x.sv ≤ 7200) := by unfold ebnd at h; simpa using h
theorem chk_era {D : Dt} (h : chkE D = 0) {j i : Nat} (hj : j < D.nz) (hi : i < (D.zs j).n) : ebnd ((D.zs j).es i) D.ns = true := (((chk_all h).2.2.1 j hj).1 i hi).1
theorem chk_fmt {D : Dt} (h : chkE D = 0) {j i : Nat} (hj : j < D.nz) (hi : i < (D.zs j).n) : ((D.zs j).es i).fm.size ≤ 12 := by
  have := (chk_all h).2.2.2 j hj i hi
  unfold fmtB at this
  simp at this
  exact this.1.2
theorem eraI_lt {es : Nat → Er} {n : Nat} (t : Int) (h : 1 ≤ n) : eraI es n t < n := by
  unfold eraI
  cases hf : (List.range n).find? fun j => decide (t < (es j).un) with
  | none => simp; omega
  | some j => exact List.mem_range.1 (List.mem_of_find?_eq_some hf)
theorem rulS_in {D : Dt} (h : chkE D = 0) {j : Nat} (hj : j < D.ns) (std t : Int) : 0 ≤ rulS (D.ss j).rs (D.ss j).n std t ∧ rulS (D.ss j).rs (D.ss j).n std t ≤ 7200 := by
  unfold rulS
  split
  · rename_i he
    obtain ⟨k, k1, k2, -, -, -⟩ := last_which _ _ _ _ he
    rw [k2]
    have := bnd_of (rchk_bnd (chk_rule h hj k1))
    exact ⟨this.2.2.2.2.2.2.2.1, this.2.2.2.2.2.2.2.2⟩
  · omega
theorem rulL_in {D : Dt} (h : chkE D = 0) {j : Nat} (hj : j < D.ns) (std t : Int) : (rulL (D.ss j).rs (D.ss j).n std t).size ≤ 12 := by
  unfold rulL
  split
  · rename_i he
    obtain ⟨k, k1, k2, -, -, -⟩ := last_which _ _ _ _ he
    rw [k2]
    exact rchk_let (chk_rule h hj k1)
  · exact fstL_size fun i hi => rchk_let (chk_rule h hj hi)

/-- the era that has a time; what is saved then, and the letter -/
def offX (D : Dt) (k : Nat) (t : Int) : Er := (D.zs k).es (eraI (D.zs k).es (D.zs k).n t)
def offS (D : Dt) (k : Nat) (t : Int) : Int := if 0 ≤ (offX D k t).set then rulS (D.ss (offX D k t).set.toNat).rs (D.ss (offX D k t).set.toNat).n (offX D k t).std t else (offX D k t).sv
def offL (D : Dt) (k : Nat) (t : Int) : ByteArray := if 0 ≤ (offX D k t).set then rulL (D.ss (offX D k t).set.toNat).rs (D.ss (offX D k t).set.toNat).n (offX D k t).std t else ⟨#[]⟩
def offA (D : Dt) (k : Nat) (t : Int) : ByteArray := ⟨(Lib.replace (offX D k t).fm.data.toList pct (offL D k t).data.toList 1).toArray⟩
/-- an offset -/
structure Of where
  tot : Int
  sv : Int
  ab : ByteArray
abbrev Of.v (x : Of) : Value := .agg #[.int .i64 x.tot, .int .i64 x.sv, .string x.ab]
def oZ : Of := ⟨0, 0, ⟨#[]⟩⟩
def offR (D : Dt) (k : Nat) (t : Int) : Of := ⟨(offX D k t).std + offS D k t, offS D k t, offA D k t⟩
/-- what off.At answers -/
def atsE (D : Dt) (s : ByteArray) (t : Int) : Int := if zonE D s = 0 then (if 0 ≤ t ∧ t < 1893456000 then 0 else 3) else zonE D s
def atsR (D : Dt) (s : ByteArray) (t : Int) : Of := if zonE D s = 0 then (if 0 ≤ t ∧ t < 1893456000 then offR D (zonR D s).toNat t else oZ) else oZ
theorem zon_ok {D : Dt} {s : ByteArray} (h : zonE D s = 0) : chkE D = 0 ∧ ∃ k : Nat, zonR D s = k ∧ k < D.nz := by
  unfold zonE at h
  split at h
  · rename_i hc
    have hi := lead_in _ _ h
    refine ⟨hc, (leadK D (D.nl + 1) s).1.toNat, ?_, by omega⟩
    unfold zonR
    rw [if_pos hc, if_pos h]
    omega
  · rename_i hc
    exact absurd h hc
theorem rep_room {x y : ByteArray} (hx : x.size ≤ 12) (hy : y.size ≤ 12) : x.size + Lib.countB x ⟨#[37, 115]⟩ * y.size ≤ 140737488355328 := by
  have h2 : (ByteArray.mk #[37, 115]).size = 2 := rfl
  have h := Lib.countB_mul_le ⟨#[37, 115]⟩ (by decide) x.size x (Nat.le_refl _)
  rw [h2] at h
  have : Lib.countB x ⟨#[37, 115]⟩ * y.size ≤ 6 * 12 := Nat.mul_le_mul (by omega) hy
  omega

/-- off.At's own boxes -/
theorem two_boxes (w : World) (o1 o2 : Obj) : Below w.heap.size w ((w.alloc o1).alloc o2) ∧ ((w.alloc o1).alloc o2).heap[w.heap.size]? = some o1 ∧ ((w.alloc o1).alloc o2).heap[w.heap.size + 1]? = some o2 := by
  refine ⟨((Below.refl _ w).alloc (Nat.le_refl _) _).alloc (by simp) _, ?_, ?_⟩
  · rw [Below.heap_alloc _ _ _ (by simp)]; exact World.alloc_heap_new _ _
  · have := World.alloc_heap_new (w.alloc o1) o2
    rwa [World.size_alloc] at this
abbrev dC (D : Dt) : Array Value := #[.slice D.sa D.ns D.sc, .slice D.za D.nz D.zc, .slice D.la D.nl D.lc]
set_option maxRecDepth 100000 in
set_option maxHeartbeats 2000000 in
theorem At_bare (D : Dt) (s : ByteArray) (t : Int) (k : Nat) (w : World) (hE : Env w D) (hF : D.fits) (hs : s.size ≤ maxLen) (h0 : zonE D s = 0) (hk : zonR D s = k) (hkz : k < D.nz) (hc : chkE D = 0) (t0 : 0 ≤ t) (t1 : t < 1893456000) (hset : (offX D k t).set < 0) :
    Calls Tryz.prog 137 #[D.v, .string s, .int .i64 t] w fun e w' => e = .returned (.tuple #[(offR D k t).v, .int .i64 0]) ∧ Below w.heap.size w w' := by
  have HE := hideH hE
  have HF := hideH hF
  have bx := two_boxes w (.cells (dC D) 26) (.cells #[.int .i64 0, .int .i64 0, .string ⟨#[]⟩] 110)
  obtain ⟨W0, hW0⟩ : ∃ W0, W0 = (w.alloc (.cells (dC D) 26)).alloc (.cells #[.int .i64 0, .int .i64 0, .string ⟨#[]⟩] 110) := ⟨_, rfl⟩
  rw [← hW0] at bx
  have HB := hideH bx.1
  have HC := hideH bx.2.1
  have HO := hideH bx.2.2
  have HEra : Hid (∀ v, Below w.heap.size w v → Calls Tryz.prog 172 #[.agg #[.string (D.zs k).nm, .slice (D.zs k).a (D.zs k).n (D.zs k).c], .int .i64 t] v fun e w' => e = .returned (offX D k t).v ∧ Below v.heap.size v w') := fun v hv =>
    eraAt_c (D.zs k) t v ((chk_all hc).1.2.2 k hkz).1 (HF.out.zn k hkz) ((HE.out.on hv).dat.eras k hkz)
  have hlt := eraI_lt (es := (D.zs k).es) t ((chk_all hc).1.2.2 k hkz).1
  have hbd := ebd (chk_era hc hkz hlt)
  have hfm := chk_fmt hc hkz hlt
  change -50400 ≤ (offX D k t).std ∧ (offX D k t).std ≤ 50400 ∧ -1 ≤ (offX D k t).set ∧ (offX D k t).set < D.ns ∧ 0 ≤ (offX D k t).sv ∧ (0 ≤ (offX D k t).set ∧ (offX D k t).sv ≤ 0 ∨ (offX D k t).set < 0 ∧ (offX D k t).sv ≤ 7200) at hbd
  change (offX D k t).fm.size ≤ 12 at hfm
  have HZ : Hid (∀ v, Below w.heap.size w v → Calls Tryz.prog 66 #[D.v, .string s] v fun e w' => e = .returned (.tuple #[.int .i64 k, .int .i64 0]) ∧ Below v.heap.size v w') := fun v hv => by
    have := DZone_c D s v (HE.out.on hv) HF.out hs
    rwa [hk, h0] at this
  have eL : offL D k t = ⟨#[]⟩ := by unfold offL; rw [if_neg (by omega)]
  have eS : offS D k t = (offX D k t).sv := by unfold offS; rw [if_neg (by omega)]
  have hL12 : (offL D k t).size ≤ 12 := by rw [eL]; exact Nat.zero_le _
  have HRep : Hid (∀ v, Below w.heap.size w v → Calls Tryz.prog 174 #[.string (offX D k t).fm, .string ⟨#[37, 115]⟩, .string (offL D k t), .int .i64 1] v fun e w' => e = .returned (.string (offA D k t)) ∧ Below v.heap.size v w') := fun v hv => by
    obtain ⟨m, hm⟩ := (HE.out.on hv).mx
    exact Tryz.strings_Replace _ _ _ 1 m v (by omega) hm (by decide) (rep_room hfm hL12)
  have HV : Hid ((offR D k t).v = .agg #[.int .i64 ((offX D k t).std + (offX D k t).sv), .int .i64 (offX D k t).sv, .string (offA D k t)]) := by show (Of.v ⟨_, _, _⟩) = _; rw [eS]
  rw [HV.out]
  rw [eL] at HRep
  clear eL eS hL12 hE hF hs h0 hk hc bx hlt hfm
  generalize offX D k t = x at *
  generalize offA D k t = A at *
  clear HV
  go_enter Tryz.func137, Tryz.ntmps137
  go_wp2_with fail
  simp only [dC] at hW0
  simp only [← hW0]
  clear hW0
  obtain ⟨b1, b2, b3, b4, b5, b6⟩ := hbd
  have b7 : x.sv ≤ 7200 := by omega
  clear b6
  refine (HZ.out _ HB.out).mono ?_
  rintro e w1 ⟨rfl, hw1⟩
  have H1 := hideH (bthen HB.out hw1)
  have C1 := hideH (heap_on HC.out hw1)
  have O1 := hideH (heap_on HO.out hw1)
  clear hw1 HB HC HO HZ
  obtain ⟨c0, c1, c2⟩ := cells3 C1.out
  rcases (HE.out.on H1.out).dat.zones with h0 | ⟨b, off, hsa, hcs⟩
  · omega
  obtain ⟨d0, d1⟩ := hcs k hkz
  have hk0 : decide ((k : Int) < 0) = false := by simp
  have hkn : decide (D.nz ≤ k) = false := by simp; omega
  clear hcs
  go_wp2_with fail
  clear c0 c1 c2 d0 d1 hk0 hkn
  refine (HEra.out _ H1.out).mono ?_
  rintro e w2 ⟨rfl, hw2⟩
  have H2 := hideH (bthen H1.out hw2)
  have C2 := hideH (heap_on C1.out hw2)
  have O2 := hideH (heap_on O1.out hw2)
  clear hw2 H1 C1 O1 HEra
  go_wp2_with fail
  obtain ⟨w3, hw3⟩ : ∃ w3, w3 = w2.alloc (.cells #[.int .i64 x.std, .int .i64 x.set, .int .i64 x.sv, .string x.fm, .int .i64 x.un] 76) := ⟨_, rfl⟩
  have hb3 := hideH ((Below.refl _ w2).alloc (Nat.le_refl _) (.cells #[.int .i64 x.std, .int .i64 x.set, .int .i64 x.sv, .string x.fm, .int .i64 x.un] 76))
  have X3 : Hid (w3.heap[w2.heap.size]? = some (.cells #[.int .i64 x.std, .int .i64 x.set, .int .i64 x.sv, .string x.fm, .int .i64 x.un] 76)) := by show _ = _; rw [hw3]; exact World.alloc_heap_new _ _
  have H3 : Hid (Below w.heap.size w w3) := by show Below _ _ _; rw [hw3]; exact bthen H2.out hb3.out
  have O3 : Hid (w3.heap[w.heap.size + 1]? = some (.cells #[.int .i64 0, .int .i64 0, .string ⟨#[]⟩] 110)) := by show _ = _; rw [hw3]; exact heap_on O2.out hb3.out
  simp only [← hw3]
  clear hw3 hb3 H2 C2 O2
  refine (HRep.out _ H3.out).mono ?_
  rintro e w4 ⟨rfl, hw4⟩
  have H4 := hideH (bthen H3.out hw4)
  obtain ⟨x0, x1, x2, x3, x4⟩ := cells5 (heap_on X3.out hw4)
  have o4 := heap_on O3.out hw4
  have O4 := hideH o4
  obtain ⟨p0, p1, p2⟩ := cells3 o4
  have g0 := frozen3 o4 0
  have g1 := frozen3 o4 1
  have g2 := frozen3 o4 2
  clear hw4 H3 X3 O3 HRep o4
  go_wp2_with fail
  refine bodyPost_ret (v := .tuple #[.agg #[.int .i64 (x.std + x.sv), .int .i64 x.sv, .string A], .int .i64 0]) ?_ rfl ⟨rfl, ?_⟩
  · have q0 := setCell_at (o := 2) (setCell_at (o := 1) (setCell_at (o := 0) O4.out (.int .i64 (x.std + x.sv))) (.int .i64 x.sv)) (.string A)
    obtain ⟨y0, y1, y2⟩ := cells3 q0
    simp [results, Tryz.results137, go_sem, y0, y1, y2]
  · exact ((H4.out.setCell (p := ⟨w.heap.size + 1, 0, none⟩) (by simp) _).setCell (p := ⟨w.heap.size + 1, 1, none⟩) (by simp) _).setCell (p := ⟨w.heap.size + 1, 2, none⟩) (by simp) _
end Go.Proofs.YtfjjdicgekgbeaaGreatDoor

/- The contract of off.At, whole. -/
namespace Go.Proofs.YtfjjdicgekgbeaaGreatDoor
open Go Go.RowKit Go.Maps
set_option linter.unusedVariables false

set_option maxRecDepth 100000 in
set_option maxHeartbeats 4000000 in
theorem At_rule (D : Dt) (s : ByteArray) (t : Int) (k : Nat) (w : World) (hE : Env w D) (hF : D.fits) (hs : s.size ≤ maxLen) (h0 : zonE D s = 0) (hk : zonR D s = k) (hkz : k < D.nz) (hc : chkE D = 0) (t0 : 0 ≤ t) (t1 : t < 1893456000) (hset : 0 ≤ (offX D k t).set) :
    Calls Tryz.prog 137 #[D.v, .string s, .int .i64 t] w fun e w' => e = .returned (.tuple #[(offR D k t).v, .int .i64 0]) ∧ Below w.heap.size w w' := by
  have HE := hideH hE
  have HF := hideH hF
  have bx := two_boxes w (.cells (dC D) 26) (.cells #[.int .i64 0, .int .i64 0, .string ⟨#[]⟩] 110)
  obtain ⟨W0, hW0⟩ : ∃ W0, W0 = (w.alloc (.cells (dC D) 26)).alloc (.cells #[.int .i64 0, .int .i64 0, .string ⟨#[]⟩] 110) := ⟨_, rfl⟩
  rw [← hW0] at bx
  have HB := hideH bx.1
  have HC := hideH bx.2.1
  have HO := hideH bx.2.2
  have HEra : Hid (∀ v, Below w.heap.size w v → Calls Tryz.prog 172 #[.agg #[.string (D.zs k).nm, .slice (D.zs k).a (D.zs k).n (D.zs k).c], .int .i64 t] v fun e w' => e = .returned (offX D k t).v ∧ Below v.heap.size v w') := fun v hv =>
    eraAt_c (D.zs k) t v ((chk_all hc).1.2.2 k hkz).1 (HF.out.zn k hkz) ((HE.out.on hv).dat.eras k hkz)
  have hlt := eraI_lt (es := (D.zs k).es) t ((chk_all hc).1.2.2 k hkz).1
  have hbd := ebd (chk_era hc hkz hlt)
  have hfm := chk_fmt hc hkz hlt
  change -50400 ≤ (offX D k t).std ∧ (offX D k t).std ≤ 50400 ∧ -1 ≤ (offX D k t).set ∧ (offX D k t).set < D.ns ∧ 0 ≤ (offX D k t).sv ∧ (0 ≤ (offX D k t).set ∧ (offX D k t).sv ≤ 0 ∨ (offX D k t).set < 0 ∧ (offX D k t).sv ≤ 7200) at hbd
  change (offX D k t).fm.size ≤ 12 at hfm
  have HZ : Hid (∀ v, Below w.heap.size w v → Calls Tryz.prog 66 #[D.v, .string s] v fun e w' => e = .returned (.tuple #[.int .i64 k, .int .i64 0]) ∧ Below v.heap.size v w') := fun v hv => by
    have := DZone_c D s v (HE.out.on hv) HF.out hs
    rwa [hk, h0] at this
  obtain ⟨j, hj, hjs⟩ : ∃ j : Nat, (offX D k t).set = j ∧ j < D.ns := ⟨(offX D k t).set.toNat, by omega, by omega⟩
  have eL : offL D k t = rulL (D.ss j).rs (D.ss j).n (offX D k t).std t := by unfold offL; rw [if_pos hset, hj]; rfl
  have eS : offS D k t = rulS (D.ss j).rs (D.ss j).n (offX D k t).std t := by unfold offS; rw [if_pos hset, hj]; rfl
  have hL12 : (offL D k t).size ≤ 12 := by rw [eL]; exact rulL_in hc hjs _ _
  have hS := rulS_in hc hjs (offX D k t).std t
  rw [← eS] at hS
  have HRep : Hid (∀ v, Below w.heap.size w v → Calls Tryz.prog 174 #[.string (offX D k t).fm, .string ⟨#[37, 115]⟩, .string (offL D k t), .int .i64 1] v fun e w' => e = .returned (.string (offA D k t)) ∧ Below v.heap.size v w') := fun v hv => by
    obtain ⟨m, hm⟩ := (HE.out.on hv).mx
    exact Tryz.strings_Replace _ _ _ 1 m v (by omega) hm (by decide) (rep_room hfm hL12)
  have HRul : Hid (∀ v, Below w.heap.size w v → Calls Tryz.prog 173 #[.slice (D.ss j).a (D.ss j).n (D.ss j).c, .int .i64 (offX D k t).std, .int .i64 t] v fun e w' => e = .returned (.tuple #[.int .i64 (offS D k t), .string (offL D k t)]) ∧ Below v.heap.size v w') := fun v hv => by
    rw [eS, eL]
    have hv' := HE.out.on hv
    exact ruled_c _ _ _ _ _ _ v hv'.laid (hv'.dat.rules j hjs) (HF.out.sn j hjs) (HF.out.lt j hjs)
  have HV : Hid ((offR D k t).v = .agg #[.int .i64 ((offX D k t).std + offS D k t), .int .i64 (offS D k t), .string (offA D k t)]) := rfl
  rw [HV.out]
  clear eL eS hL12 hE hF hs h0 hk hc bx hlt hfm HV
  generalize offX D k t = x at *
  generalize offA D k t = A at *
  generalize offS D k t = S at *
  generalize offL D k t = L at *
  obtain ⟨b1, b2, b3, b4, b5, b6⟩ := hbd
  obtain ⟨s1, s2⟩ := hS
  clear b3 b4 b5 b6 hset
  obtain ⟨xstd, xset, xsv, xfm, xun⟩ := x
  simp only at b1 b2 hj HRep HRul
  subst hj
  go_enter Tryz.func137, Tryz.ntmps137
  go_wp2_with fail
  simp only [dC] at hW0
  simp only [← hW0]
  clear hW0
  refine (HZ.out _ HB.out).mono ?_
  rintro e w1 ⟨rfl, hw1⟩
  have H1 := hideH (bthen HB.out hw1)
  have C1 := hideH (heap_on HC.out hw1)
  have O1 := hideH (heap_on HO.out hw1)
  clear hw1 HB HC HO HZ
  obtain ⟨c0, c1, c2⟩ := cells3 C1.out
  rcases (HE.out.on H1.out).dat.zones with h0 | ⟨b, off, hsa, hcs⟩
  · omega
  obtain ⟨d0, d1⟩ := hcs k hkz
  have hk0 : decide ((k : Int) < 0) = false := by simp
  have hkn : decide (D.nz ≤ k) = false := by simp; omega
  clear hcs
  go_wp2_with fail
  clear c0 c1 c2 d0 d1 hk0 hkn
  refine (HEra.out _ H1.out).mono ?_
  rintro e w2 ⟨rfl, hw2⟩
  have H2 := hideH (bthen H1.out hw2)
  have C2 := hideH (heap_on C1.out hw2)
  have O2 := hideH (heap_on O1.out hw2)
  clear hw2 H1 C1 O1 HEra
  have hj0 : decide ((j : Int) < 0) = false := by simp
  have hjn : decide (D.ns ≤ j) = false := by simp; omega
  have hji : (0 : Int) ≤ (j : Int) := by omega
  rcases (HE.out.on H2.out).dat.sets with h0 | ⟨bs, offs, hss, hcs2⟩
  · omega
  obtain ⟨d0, d1⟩ := hcs2 j hjs
  obtain ⟨c0, c1, c2⟩ := cells3 C2.out
  have hl1 := cell_lt d1
  have hl2 := cell_lt c0
  clear hcs2 d0
  go_wp2_with fail
  go_region_with (first | (go_at_call 173; refine (HRul.out _ (((H2.out.alloc (by exact H2.out.size) _)).drew)).mono ?_; rintro e w4 ⟨rfl, hw4⟩))
  all_goals
    clear c0 c1 c2 d1 hj0 hjn hl1 hl2 HRul
    have hb3 := hideH ((Below.refl _ w2).alloc (Nat.le_refl _) (.cells #[.int .i64 xstd, .int .i64 j, .int .i64 xsv, .string xfm, .int .i64 xun] 76))
    have H3 : Hid (Below w.heap.size w w4) := bthen (w := w) (a := (w2.alloc (.cells #[.int .i64 xstd, .int .i64 j, .int .i64 xsv, .string xfm, .int .i64 xun] 76)).drew) ((bthen H2.out hb3.out).drew) hw4
    have X3 : Hid (w4.heap[w2.heap.size]? = some (.cells #[.int .i64 xstd, .int .i64 j, .int .i64 xsv, .string xfm, .int .i64 xun] 76)) := heap_on (w := (w2.alloc (.cells #[.int .i64 xstd, .int .i64 j, .int .i64 xsv, .string xfm, .int .i64 xun] 76)).drew) (World.alloc_heap_new w2 (.cells #[.int .i64 xstd, .int .i64 j, .int .i64 xsv, .string xfm, .int .i64 xun] 76)) hw4
    have O3 : Hid (w4.heap[w.heap.size + 1]? = some (.cells #[.int .i64 0, .int .i64 0, .string ⟨#[]⟩] 110)) := heap_on (w := (w2.alloc (.cells #[.int .i64 xstd, .int .i64 j, .int .i64 xsv, .string xfm, .int .i64 xun] 76)).drew) (heap_on O2.out hb3.out.drew) hw4
    clear hw4 hb3 H2 C2 O2
    obtain ⟨y0, y1, y2, y3, y4⟩ := cells5 X3.out
    go_wp2_with fail
    clear y0 y1 y2 y3 y4
    refine (HRep.out _ H3.out).mono ?_
    rintro e w5 ⟨rfl, hw5⟩
    have H4 := hideH (bthen H3.out hw5)
    obtain ⟨x0, x1, x2, x3, x4⟩ := cells5 (heap_on X3.out hw5)
    have o4 := heap_on O3.out hw5
    have O4 := hideH o4
    obtain ⟨p0, p1, p2⟩ := cells3 o4
    have g0 := frozen3 o4 0
    have g1 := frozen3 o4 1
    have g2 := frozen3 o4 2
    clear hw5 H3 X3 O3 HRep o4
    go_wp2_with fail
    refine bodyPost_ret (v := .tuple #[.agg #[.int .i64 (xstd + S), .int .i64 S, .string A], .int .i64 0]) ?_ rfl ⟨rfl, ?_⟩
    · have q0 := setCell_at (o := 2) (setCell_at (o := 1) (setCell_at (o := 0) O4.out (.int .i64 (xstd + S))) (.int .i64 S)) (.string A)
      obtain ⟨y0, y1, y2⟩ := cells3 q0
      simp [results, Tryz.results137, go_sem, y0, y1, y2]
    · exact ((H4.out.setCell (p := ⟨w.heap.size + 1, 0, none⟩) (by simp) _).setCell (p := ⟨w.heap.size + 1, 1, none⟩) (by simp) _).setCell (p := ⟨w.heap.size + 1, 2, none⟩) (by simp) _

end Go.Proofs.YtfjjdicgekgbeaaGreatDoor

/- The contract of off.At, whole. -/
namespace Go.Proofs.YtfjjdicgekgbeaaGreatDoor
open Go Go.RowKit Go.Maps
set_option linter.unusedVariables false

set_option maxRecDepth 100000 in
set_option maxHeartbeats 2000000 in
theorem At_no (D : Dt) (s : ByteArray) (t : Int) (w : World) (hE : Env w D) (hF : D.fits) (hs : s.size ≤ maxLen) (h0 : zonE D s ≠ 0) (hz : zonR D s = 0) :
    Calls Tryz.prog 137 #[D.v, .string s, .int .i64 t] w fun e w' => e = .returned (.tuple #[oZ.v, .int .i64 (zonE D s)]) ∧ Below w.heap.size w w' := by
  have HE := hideH hE
  have HF := hideH hF
  have bx := two_boxes w (.cells (dC D) 26) (.cells #[.int .i64 0, .int .i64 0, .string ⟨#[]⟩] 110)
  obtain ⟨W0, hW0⟩ : ∃ W0, W0 = (w.alloc (.cells (dC D) 26)).alloc (.cells #[.int .i64 0, .int .i64 0, .string ⟨#[]⟩] 110) := ⟨_, rfl⟩
  rw [← hW0] at bx
  have HB := hideH bx.1
  have HC := hideH bx.2.1
  have HO := hideH bx.2.2
  have HZ : Hid (∀ v, Below w.heap.size w v → Calls Tryz.prog 66 #[D.v, .string s] v fun e w' => e = .returned (.tuple #[.int .i64 0, .int .i64 (zonE D s)]) ∧ Below v.heap.size v w') := fun v hv => by
    have := DZone_c D s v (HE.out.on hv) HF.out hs
    rwa [hz] at this
  have hne : (zonE D s != 0) = true := by rw [bne_iff_ne]; exact h0
  show Calls _ _ _ _ fun e w' => e = .returned (.tuple #[.agg #[.int .i64 0, .int .i64 0, .string ⟨#[]⟩], .int .i64 (zonE D s)]) ∧ Below w.heap.size w w'
  clear hE hF hs h0 bx hz
  generalize zonE D s = E at *
  go_enter Tryz.func137, Tryz.ntmps137
  go_wp2_with fail
  simp only [dC] at hW0
  simp only [← hW0]
  clear hW0
  refine (HZ.out _ HB.out).mono ?_
  rintro e w1 ⟨rfl, hw1⟩
  have H1 := hideH (bthen HB.out hw1)
  have o1 := heap_on HO.out hw1
  have O1 := hideH o1
  obtain ⟨p0, p1, p2⟩ := cells3 o1
  have g0 := frozen3 o1 0
  have g1 := frozen3 o1 1
  have g2 := frozen3 o1 2
  clear hw1 HB HC HO HZ o1
  go_wp2_with fail
  refine bodyPost_ret (v := .tuple #[.agg #[.int .i64 0, .int .i64 0, .string ⟨#[]⟩], .int .i64 E]) ?_ rfl ⟨rfl, ?_⟩
  · have q0 := setCell_at (o := 2) (setCell_at (o := 1) (setCell_at (o := 0) O1.out (.int .i64 0)) (.int .i64 0)) (.string ⟨#[]⟩)
    obtain ⟨y0, y1, y2⟩ := cells3 q0
    simp [results, Tryz.results137, go_sem, y0, y1, y2]
  · exact ((H1.out.setCell (p := ⟨w.heap.size + 1, 0, none⟩) (by simp) _).setCell (p := ⟨w.heap.size + 1, 1, none⟩) (by simp) _).setCell (p := ⟨w.heap.size + 1, 2, none⟩) (by simp) _

set_option maxRecDepth 100000 in
set_option maxHeartbeats 2000000 in
theorem At_rng (D : Dt) (s : ByteArray) (t : Int) (w : World) (hE : Env w D) (hF : D.fits) (hs : s.size ≤ maxLen) (h0 : zonE D s = 0) (ht : t < 0 ∨ 1893456000 ≤ t) :
    Calls Tryz.prog 137 #[D.v, .string s, .int .i64 t] w fun e w' => e = .returned (.tuple #[oZ.v, .int .i64 3]) ∧ Below w.heap.size w w' := by
  have HE := hideH hE
  have HF := hideH hF
  have bx := two_boxes w (.cells (dC D) 26) (.cells #[.int .i64 0, .int .i64 0, .string ⟨#[]⟩] 110)
  obtain ⟨W0, hW0⟩ : ∃ W0, W0 = (w.alloc (.cells (dC D) 26)).alloc (.cells #[.int .i64 0, .int .i64 0, .string ⟨#[]⟩] 110) := ⟨_, rfl⟩
  rw [← hW0] at bx
  have HB := hideH bx.1
  have HC := hideH bx.2.1
  have HO := hideH bx.2.2
  have HZ : Hid (∀ v, Below w.heap.size w v → Calls Tryz.prog 66 #[D.v, .string s] v fun e w' => e = .returned (.tuple #[.int .i64 (zonR D s), .int .i64 0]) ∧ Below v.heap.size v w') := fun v hv => by
    have := DZone_c D s v (HE.out.on hv) HF.out hs
    rwa [h0] at this
  show Calls _ _ _ _ fun e w' => e = .returned (.tuple #[.agg #[.int .i64 0, .int .i64 0, .string ⟨#[]⟩], .int .i64 3]) ∧ Below w.heap.size w w'
  clear hE hF hs h0 bx
  generalize zonR D s = R at *
  have hcc : t < 0 ∨ (0 ≤ t ∧ 1893456000 ≤ t) := by omega
  rcases hcc with hcc | ⟨hcc, hcd⟩
  all_goals
    clear ht
    go_enter Tryz.func137, Tryz.ntmps137
    go_wp2_with fail
    simp only [dC] at hW0
    simp only [← hW0]
    clear hW0
    refine (HZ.out _ HB.out).mono ?_
    rintro e w1 ⟨rfl, hw1⟩
    have H1 := hideH (bthen HB.out hw1)
    have o1 := heap_on HO.out hw1
    have O1 := hideH o1
    obtain ⟨p0, p1, p2⟩ := cells3 o1
    have g0 := frozen3 o1 0
    have g1 := frozen3 o1 1
    have g2 := frozen3 o1 2
    clear hw1 HB HC HO HZ o1
    go_wp2_with fail
    refine bodyPost_ret (v := .tuple #[.agg #[.int .i64 0, .int .i64 0, .string ⟨#[]⟩], .int .i64 3]) ?_ rfl ⟨rfl, ?_⟩
    · have q0 := setCell_at (o := 2) (setCell_at (o := 1) (setCell_at (o := 0) O1.out (.int .i64 0)) (.int .i64 0)) (.string ⟨#[]⟩)
      obtain ⟨y0, y1, y2⟩ := cells3 q0
      simp [results, Tryz.results137, go_sem, y0, y1, y2]
    · exact ((H1.out.setCell (p := ⟨w.heap.size + 1, 0, none⟩) (by simp) _).setCell (p := ⟨w.heap.size + 1, 1, none⟩) (by simp) _).setCell (p := ⟨w.heap.size + 1, 2, none⟩) (by simp) _

/-- off.At -/
theorem OAt_c (D : Dt) (s : ByteArray) (t : Int) (w : World) (hE : Env w D) (hF : D.fits) (hs : s.size ≤ maxLen) :
    Calls Tryz.prog 137 #[D.v, .string s, .int .i64 t] w fun e w' => e = .returned (.tuple #[(atsR D s t).v, .int .i64 (atsE D s t)]) ∧ Below w.heap.size w w' := by
  by_cases h0 : zonE D s = 0
  · obtain ⟨hc, k, hk, hkz⟩ := zon_ok h0
    by_cases ht : 0 ≤ t ∧ t < 1893456000
    · have e1 : atsE D s t = 0 := by unfold atsE; rw [if_pos h0, if_pos ht]
      have e2 : atsR D s t = offR D k t := by unfold atsR; rw [if_pos h0, if_pos ht, hk]; rfl
      rw [e1, e2]
      by_cases hs0 : 0 ≤ (offX D k t).set
      · exact At_rule D s t k w hE hF hs h0 hk hkz hc ht.1 ht.2 hs0
      · exact At_bare D s t k w hE hF hs h0 hk hkz hc ht.1 ht.2 (by omega)
    · have e1 : atsE D s t = 3 := by unfold atsE; rw [if_pos h0, if_neg ht]
      have e2 : atsR D s t = oZ := by unfold atsR; rw [if_pos h0, if_neg ht]
      rw [e1, e2]
      exact At_rng D s t w hE hF hs h0 (by omega)
  · have e1 : atsE D s t = zonE D s := by unfold atsE; rw [if_neg h0]
    have e2 : atsR D s t = oZ := by unfold atsR; rw [if_neg h0]
    rw [e1, e2]
    refine At_no D s t w hE hF hs h0 ?_
    unfold zonR
    unfold zonE at h0
    split
    · rename_i hc
      rw [if_pos hc] at h0
      rw [if_neg h0]
    · rfl
end Go.Proofs.YtfjjdicgekgbeaaGreatDoor

/- What off.At's answers give; boxes that are made about a call. -/
namespace Go.Proofs.YtfjjdicgekgbeaaGreatDoor
open Go Go.RowKit Go.Maps
set_option linter.unusedVariables false

theorem rep_len (l new : List UInt8) : (Lib.replace l pct new 1).length ≤ l.length + new.length := by
  cases hn : (pct == new)
  · rw [rep1 l new hn]
    split
    · omega
    · rw [List.length_append, List.length_append, List.length_take, List.length_drop]; omega
  · unfold Lib.replace
    rw [hn]
    simp
/-- what off.At answers, where it answers -/
theorem ats_ok {D : Dt} {s : ByteArray} {t : Int} (h : atsE D s t = 0) : ∃ k : Nat, zonE D s = 0 ∧ zonR D s = k ∧ k < D.nz ∧ chkE D = 0 ∧ 0 ≤ t ∧ t < 1893456000 ∧ atsR D s t = offR D k t := by
  unfold atsE at h
  split at h
  · rename_i h0
    obtain ⟨hc, k, hk, hkz⟩ := zon_ok h0
    split at h
    · rename_i ht
      refine ⟨k, h0, hk, hkz, hc, ht.1, ht.2, ?_⟩
      unfold atsR
      rw [if_pos h0, if_pos ht, hk]; rfl
    · cases h
  · rename_i h0
    exact absurd h h0
theorem ats_zone {D : Dt} {k : Nat} {t : Int} (hc : chkE D = 0) (hk : k < D.nz) (t0 : 0 ≤ t) (t1 : t < 1893456000) : atsE D (D.zs k).nm t = 0 ∧ atsR D (D.zs k).nm t = offR D k t := by
  obtain ⟨z1, z2⟩ := zone_told hc hk
  unfold atsE atsR
  rw [if_pos z2, if_pos z2, if_pos ⟨t0, t1⟩, if_pos ⟨t0, t1⟩, z1]
  exact ⟨rfl, rfl⟩
theorem offS_in {D : Dt} (hc : chkE D = 0) {k : Nat} (hk : k < D.nz) (t : Int) : 0 ≤ offS D k t ∧ offS D k t ≤ 7200 := by
  have hlt := eraI_lt (es := (D.zs k).es) t ((chk_all hc).1.2.2 k hk).1
  have hb := ebd (chk_era hc hk hlt)
  change -50400 ≤ (offX D k t).std ∧ (offX D k t).std ≤ 50400 ∧ -1 ≤ (offX D k t).set ∧ (offX D k t).set < D.ns ∧ 0 ≤ (offX D k t).sv ∧ (0 ≤ (offX D k t).set ∧ (offX D k t).sv ≤ 0 ∨ (offX D k t).set < 0 ∧ (offX D k t).sv ≤ 7200) at hb
  unfold offS
  split
  · exact rulS_in hc (by omega) _ _
  · omega
theorem offA_in {D : Dt} (hc : chkE D = 0) {k : Nat} (hk : k < D.nz) (t : Int) : (offA D k t).size ≤ 24 := by
  have hlt := eraI_lt (es := (D.zs k).es) t ((chk_all hc).1.2.2 k hk).1
  have hb := ebd (chk_era hc hk hlt)
  change -50400 ≤ (offX D k t).std ∧ (offX D k t).std ≤ 50400 ∧ -1 ≤ (offX D k t).set ∧ (offX D k t).set < D.ns ∧ 0 ≤ (offX D k t).sv ∧ (0 ≤ (offX D k t).set ∧ (offX D k t).sv ≤ 0 ∨ (offX D k t).set < 0 ∧ (offX D k t).sv ≤ 7200) at hb
  have hf : (offX D k t).fm.size ≤ 12 := chk_fmt hc hk hlt
  have hl : (offL D k t).size ≤ 12 := by
    unfold offL
    split
    · exact rulL_in hc (by omega) _ _
    · exact Nat.zero_le _
  have h := rep_len (offX D k t).fm.data.toList (offL D k t).data.toList
  have e1 : (offX D k t).fm.data.toList.length = (offX D k t).fm.size := by simp
  have e2 : (offL D k t).data.toList.length = (offL D k t).size := by simp
  have e3 : (offA D k t).size = (Lib.replace (offX D k t).fm.data.toList pct (offL D k t).data.toList 1).length := by unfold offA; simp [ByteArray.size]
  omega

/-- a box that was made behind a call -/
theorem meetA {w v w4 : World} {b1 b2 : Nat} {o1 o2 : Obj} (h : Below w.heap.size w v) (hw : Below v.heap.size v w4) (c1 : v.heap[b1]? = some o1) (c2 : v.heap[b2]? = some o2) (o : Obj) :
    Below w.heap.size w (w4.alloc o) ∧ (w4.alloc o).heap[w4.heap.size]? = some o ∧ (w4.alloc o).heap[b1]? = some o1 ∧ (w4.alloc o).heap[b2]? = some o2 := by
  have hb := (Below.refl _ w4).alloc (Nat.le_refl _) o
  exact ⟨bthen (bthen h hw) hb, World.alloc_heap_new _ _, heap_on (heap_on c1 hw) hb, heap_on (heap_on c2 hw) hb⟩
/-- a box of three cells that was made ahead of a call, and stored into behind it -/
theorem meetB {w w3 w4 : World} {b1 b2 : Nat} {o1 o2 : Obj} {z0 z1 z2 : Value} {ty : TypeId} (h : Below w.heap.size w w3) (hw : Below (w3.alloc (.cells #[z0, z1, z2] ty)).heap.size (w3.alloc (.cells #[z0, z1, z2] ty)).drew w4) (c1 : w3.heap[b1]? = some o1) (c2 : w3.heap[b2]? = some o2) (x y z : Value) :
    Below w.heap.size w (((w4.setCell ⟨w3.heap.size, 0, none⟩ x).setCell ⟨w3.heap.size, 1, none⟩ y).setCell ⟨w3.heap.size, 2, none⟩ z) ∧ (((w4.setCell ⟨w3.heap.size, 0, none⟩ x).setCell ⟨w3.heap.size, 1, none⟩ y).setCell ⟨w3.heap.size, 2, none⟩ z).heap[w3.heap.size]? = some (.cells #[x, y, z] ty) ∧
      (((w4.setCell ⟨w3.heap.size, 0, none⟩ x).setCell ⟨w3.heap.size, 1, none⟩ y).setCell ⟨w3.heap.size, 2, none⟩ z).heap[b1]? = some o1 ∧ (((w4.setCell ⟨w3.heap.size, 0, none⟩ x).setCell ⟨w3.heap.size, 1, none⟩ y).setCell ⟨w3.heap.size, 2, none⟩ z).heap[b2]? = some o2 := by
  have hb := (Below.refl _ w3).alloc (Nat.le_refl _) (.cells #[z0, z1, z2] ty)
  have hz := h.size
  have l1 := (Array.getElem?_eq_some_iff.1 c1).1
  have l2 := (Array.getElem?_eq_some_iff.1 c2).1
  have h4 : Below w.heap.size w w4 := bthen (w := w) (a := (w3.alloc (.cells #[z0, z1, z2] ty)).drew) (bthen h hb).drew hw
  have n := heap_on (w := (w3.alloc (.cells #[z0, z1, z2] ty)).drew) (World.alloc_heap_new w3 (.cells #[z0, z1, z2] ty)) hw
  have d1 := heap_on (w := (w3.alloc (.cells #[z0, z1, z2] ty)).drew) (heap_on c1 hb.drew) hw
  have d2 := heap_on (w := (w3.alloc (.cells #[z0, z1, z2] ty)).drew) (heap_on c2 hb.drew) hw
  refine ⟨((h4.setCell (p := ⟨w3.heap.size, 0, none⟩) hz _).setCell (p := ⟨w3.heap.size, 1, none⟩) hz _).setCell (p := ⟨w3.heap.size, 2, none⟩) hz _, setCell_at (setCell_at (setCell_at n _) _) _, ?_, ?_⟩
  · rw [Below.heap_setCell _ _ _ _ (show b1 ≠ w3.heap.size by omega), Below.heap_setCell _ _ _ _ (show b1 ≠ w3.heap.size by omega), Below.heap_setCell _ _ _ _ (show b1 ≠ w3.heap.size by omega)]; exact d1
  · rw [Below.heap_setCell _ _ _ _ (show b2 ≠ w3.heap.size by omega), Below.heap_setCell _ _ _ _ (show b2 ≠ w3.heap.size by omega), Below.heap_setCell _ _ _ _ (show b2 ≠ w3.heap.size by omega)]; exact d2

end Go.Proofs.YtfjjdicgekgbeaaGreatDoor
