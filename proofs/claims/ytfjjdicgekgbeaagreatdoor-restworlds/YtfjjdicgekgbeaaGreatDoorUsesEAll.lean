/- Contracts of package uses: Check, checkAt, Meta. -/
import Derived.Test.YtfjjdicgekgbeaaGreatDoorUsesD
import Derived.Test.YtfjjdicgekgbeaaGreatDoorDataOAll
namespace Go.Proofs.YtfjjdicgekgbeaaGreatDoor
open Go Go.RowKit
set_option linter.unusedVariables false

/-- what uses.Check answers -/
def uchk (D : Dt) (n : Nat) (us : Nat → Us) : Int :=
  if chkE D = 0 then
    if n ≤ 10 then
      if ∀ j, j < n → nameB (us j).mt = true then
        if ∀ j, j < n → zoB D (us j).zn = true then
          if ∀ j, j < n → ubB (us j) = true then
            if novl us n then 0 else 6
          else 3
        else 4
      else 5
    else 2
  else chkE D
set_option maxHeartbeats 8000000 in
theorem UCheck_c (D : Dt) (a : Option Addr) (n c : Nat) (us : Nat → Us) (w : World) (hE : Env w D) (hF : D.fits) (hn : n ≤ maxLen) (hc : n ≤ c) (hU : UAt w a n us) (hf : ∀ j, j < n → (us j).fits) :
    Calls Tryz.prog 59 #[D.v, .slice a n c] w fun e w' => e = .returned (.int .i64 (uchk D n us)) ∧ Below w.heap.size w w' := by
  have HE := hideH hE
  have HF := hideH hF
  have HU := hideH hU
  have HFU := hideH hf
  have hmf : ∀ (fn : Fn) (first cap : Array Value) (w : World), (Instr.makeFunc fn first cap).run Tryz.prog w = .ok (.func fn first cap) w := fun _ _ _ _ => rfl
  have hb := hideH ((Below.refl _ w).alloc (Nat.le_refl _) (.cells #[.slice D.sa D.ns D.sc, .slice D.za D.nz D.zc, .slice D.la D.nl D.lc] 26))
  have hbx := hideH (show (w.alloc (.cells #[.slice D.sa D.ns D.sc, .slice D.za D.nz D.zc, .slice D.la D.nl D.lc] 26)).heap[w.heap.size]? = some (.cells #[.slice D.sa D.ns D.sc, .slice D.za D.nz D.zc, .slice D.la D.nl D.lc] 26) from World.alloc_heap_new _ _)
  have HC : Hid (∀ v, Below w.heap.size w v → Calls Tryz.prog 86 #[D.v] v fun e w' => e = .returned (.int .i64 (chkE D)) ∧ Below v.heap.size v w') := fun v hv => DCheck_c D v (HE.out.on hv) HF.out
  obtain ⟨V, hV⟩ : ∃ V, V = uchk D n us := ⟨_, rfl⟩
  rw [← hV]
  have HV := hideH hV
  have hmx := hn
  unfold maxLen at hmx
  have HN := hideH hn
  clear hV hE hF hU hf hn
  go_enter Tryz.func59, Tryz.ntmps59
  go_wp2_with fail
  refine (HC.out _ hb.out).mono ?_
  rintro e w1 ⟨rfl, hw1⟩
  have H1 := hideH (bthen hb.out hw1)
  have B1 := hideH (heap_on hbx.out hw1)
  clear hw1 hb hbx HC
  rcases beq_cases (chkE D) 0 with ⟨q1, q2⟩ | ⟨q1, q2⟩
  · have Q0 := hideH q2
    have hz : D.nz ≤ 5 := (chk_parts q2).1.2.1
    rw [q2]
    clear q1 q2
    by_cases h10 : n ≤ 10
    · have H2 : Hid (∀ v, Below w.heap.size w v → Calls Tryz.prog 91 #[.slice a n c, .func (.func 87) #[] #[]] v fun e w' => e = .returned (.bool (decide (∀ j, j < n → nameB (us j).mt = true))) ∧ Below v.heap.size v w') := fun v hv => uallNamed_c a n c us v HN.out (HU.out.on hv) HFU.out
      have H3 : Hid (∀ v, Below w.heap.size w v → v.heap[w.heap.size]? = some (.cells #[.slice D.sa D.ns D.sc, .slice D.za D.nz D.zc, .slice D.la D.nl D.lc] 26) → Calls Tryz.prog 91 #[.slice a n c, .func (.func 89) #[] #[.pointer (some ⟨w.heap.size, 0, none⟩)]] v fun e w' => e = .returned (.bool (decide (∀ j, j < n → zoB D (us j).zn = true))) ∧ Below v.heap.size v w') := fun v hv hp => uallThere_c a n c us D w.heap.size v HN.out (HU.out.on hv) HFU.out hz (HE.out.on hv).dat hp
      have H4 : Hid (∀ v, Below w.heap.size w v → Calls Tryz.prog 91 #[.slice a n c, .func (.func 92) #[] #[]] v fun e w' => e = .returned (.bool (decide (∀ j, j < n → ubB (us j) = true))) ∧ Below v.heap.size v w') := fun v hv => uallBnd_c a n c us v HN.out (HU.out.on hv) HFU.out
      have H5 : Hid (∀ v, Below w.heap.size w v → Calls Tryz.prog 93 #[.slice a n c] v fun e w' => e = .returned (.bool (!decide (novl us n))) ∧ Below v.heap.size v w') := fun v hv => overlap_c a n c us v h10 hc (HU.out.on hv) HFU.out
      have HV2 : Hid (V = if ∀ j, j < n → nameB (us j).mt = true then (if ∀ j, j < n → zoB D (us j).zn = true then (if ∀ j, j < n → ubB (us j) = true then (if novl us n then 0 else 6) else 3) else 4) else 5) := by show V = _; rw [HV.out]; unfold uchk; rw [if_pos Q0.out, if_pos h10]
      clear HV
      go_wp2_with fail
      by_cases a1 : ∀ j, j < n → nameB (us j).mt = true
      · rw [if_pos a1] at HV2
        rw [decide_eq_true a1] at H2
        clear a1
        refine (H2.out _ H1.out).mono ?_
        rintro e w2 ⟨rfl, hw2⟩
        have K2 := hideH (bthen H1.out hw2)
        have B2 := hideH (heap_on B1.out hw2)
        clear hw2 H1 B1 H2
        go_wp2_with fail
        by_cases a2 : ∀ j, j < n → zoB D (us j).zn = true
        · rw [if_pos a2] at HV2
          rw [decide_eq_true a2] at H3
          clear a2
          refine (H3.out _ K2.out B2.out).mono ?_
          rintro e w3 ⟨rfl, hw3⟩
          have K3 := hideH (bthen K2.out hw3)
          clear hw3 K2 B2 H3
          go_wp2_with fail
          by_cases a3 : ∀ j, j < n → ubB (us j) = true
          · rw [if_pos a3] at HV2
            rw [decide_eq_true a3] at H4
            clear a3
            refine (H4.out _ K3.out).mono ?_
            rintro e w4 ⟨rfl, hw4⟩
            have K4 := hideH (bthen K3.out hw4)
            clear hw4 K3 H4
            go_wp2_with fail
            by_cases a4 : novl us n
            · rw [if_pos a4] at HV2
              rw [decide_eq_true a4] at H5
              clear a4
              refine (H5.out _ K4.out).mono ?_
              rintro e w5 ⟨rfl, hw5⟩
              have K5 := hideH (bthen K4.out hw5)
              clear hw5 K4 H5
              go_wp2_with fail
              go_ret
              exact ⟨ret_int HV2.out.symm, K5.out⟩
            · rw [if_neg a4] at HV2
              rw [decide_eq_false a4] at H5
              clear a4
              refine (H5.out _ K4.out).mono ?_
              rintro e w5 ⟨rfl, hw5⟩
              have K5 := hideH (bthen K4.out hw5)
              clear hw5 K4 H5
              go_wp2_with fail
              go_ret
              exact ⟨ret_int HV2.out.symm, K5.out⟩
          · rw [if_neg a3] at HV2
            rw [decide_eq_false a3] at H4
            clear a3
            refine (H4.out _ K3.out).mono ?_
            rintro e w4 ⟨rfl, hw4⟩
            have K4 := hideH (bthen K3.out hw4)
            clear hw4 K3 H4
            go_wp2_with fail
            go_ret
            exact ⟨ret_int HV2.out.symm, K4.out⟩
        · rw [if_neg a2] at HV2
          rw [decide_eq_false a2] at H3
          clear a2
          refine (H3.out _ K2.out B2.out).mono ?_
          rintro e w3 ⟨rfl, hw3⟩
          have K3 := hideH (bthen K2.out hw3)
          clear hw3 K2 B2 H3
          go_wp2_with fail
          go_ret
          exact ⟨ret_int HV2.out.symm, K3.out⟩
      · rw [if_neg a1] at HV2
        rw [decide_eq_false a1] at H2
        clear a1
        refine (H2.out _ H1.out).mono ?_
        rintro e w2 ⟨rfl, hw2⟩
        have K2 := hideH (bthen H1.out hw2)
        clear hw2 H1 B1 H2
        go_wp2_with fail
        go_ret
        exact ⟨ret_int HV2.out.symm, K2.out⟩
    · have HX : Hid (V = 2) := by show V = 2; rw [HV.out]; unfold uchk; rw [if_pos Q0.out, if_neg h10]
      have h11 : (10 : Int) < (n : Int) := by omega
      go_wp2_with fail
      go_ret
      exact ⟨ret_int HX.out.symm, H1.out⟩
  · have HX : Hid (V = chkE D) := by show V = _; rw [HV.out]; unfold uchk; rw [if_neg q2]
    have hne : (chkE D != 0) = true := by rw [bne_iff_ne]; exact q2
    clear q1 q2
    go_wp2_with fail
    go_ret
    exact ⟨ret_int HX.out.symm, H1.out⟩
end Go.Proofs.YtfjjdicgekgbeaaGreatDoor

/- Contracts of package uses: checkAt, Meta. -/
namespace Go.Proofs.YtfjjdicgekgbeaaGreatDoor
open Go Go.RowKit
set_option linter.unusedVariables false

def ucat (D : Dt) (n : Nat) (us : Nat → Us) (t : Int) : Int := if uchk D n us = 0 then (if 0 ≤ t ∧ t < 1893456000 then 0 else 3) else uchk D n us
/-- data and uses, as they are handed in -/
structure UEnv (w : World) (D : Dt) (a : Option Addr) (n c : Nat) (us : Nat → Us) : Prop where
  env : Env w D
  dfit : D.fits
  len : n ≤ maxLen
  cap : n ≤ c
  at_ : UAt w a n us
  fit : ∀ j, j < n → (us j).fits
theorem UEnv.on {w w' : World} {D : Dt} {a : Option Addr} {n c : Nat} {us : Nat → Us} (h : UEnv w D a n c us) (hb : Below w.heap.size w w') : UEnv w' D a n c us := ⟨h.env.on hb, h.dfit, h.len, h.cap, h.at_.on hb, h.fit⟩
theorem UEnv.check {w : World} {D : Dt} {a : Option Addr} {n c : Nat} {us : Nat → Us} (h : UEnv w D a n c us) : Calls Tryz.prog 59 #[D.v, .slice a n c] w fun e w' => e = .returned (.int .i64 (uchk D n us)) ∧ Below w.heap.size w w' := UCheck_c D a n c us w h.env h.dfit h.len h.cap h.at_ h.fit
theorem uchk_ok {D : Dt} {n : Nat} {us : Nat → Us} (h : uchk D n us = 0) : chkE D = 0 ∧ n ≤ 10 ∧ (∀ j, j < n → nameB (us j).mt = true) ∧ (∀ j, j < n → zoB D (us j).zn = true) ∧ (∀ j, j < n → ubB (us j) = true) ∧ novl us n := by
  unfold uchk at h
  split at h
  · rename_i h0
    split at h
    · rename_i h1
      split at h
      · rename_i h2
        split at h
        · rename_i h3
          split at h
          · rename_i h4
            split at h
            · rename_i h5
              exact ⟨h0, h1, h2, h3, h4, h5⟩
            · cases h
          · cases h
        · cases h
      · cases h
    · cases h
  · rename_i h0
    exact absurd h h0
set_option maxHeartbeats 4000000 in
theorem checkAt_c (D : Dt) (a : Option Addr) (n c : Nat) (us : Nat → Us) (t : Int) (w : World) (hE : UEnv w D a n c us) : Calls Tryz.prog 141 #[D.v, .slice a n c, .int .i64 t] w fun e w' => e = .returned (.int .i64 (ucat D n us t)) ∧ Below w.heap.size w w' := by
  have hb := hideH ((Below.refl _ w).alloc (Nat.le_refl _) (.cells #[.slice D.sa D.ns D.sc, .slice D.za D.nz D.zc, .slice D.la D.nl D.lc] 26))
  have HC : Hid (∀ v, Below w.heap.size w v → Calls Tryz.prog 59 #[D.v, .slice a n c] v fun e w' => e = .returned (.int .i64 (uchk D n us)) ∧ Below v.heap.size v w') := fun v hv => (hE.on hv).check
  obtain ⟨V, hV⟩ : ∃ V, V = ucat D n us t := ⟨_, rfl⟩
  rw [← hV]
  have HV := hideH hV
  clear hV hE
  go_enter Tryz.func141, Tryz.ntmps141
  go_wp2_with fail
  refine (HC.out _ (by first | exact hb.out | exact Below.refl _ _)).mono ?_
  rintro e w1 ⟨rfl, hw1⟩
  have H1 : Hid (Below w.heap.size w w1) := by first | exact bthen hb.out hw1 | exact hw1
  clear hw1 HC
  rcases beq_cases (uchk D n us) 0 with ⟨q1, q2⟩ | ⟨q1, q2⟩
  · by_cases h1 : 0 ≤ t
    · by_cases h2 : t < 1893456000
      · have HX : Hid (V = 0) := by show V = 0; rw [HV.out]; unfold ucat; rw [if_pos q2, if_pos ⟨h1, h2⟩]
        rw [q2]
        clear q1 q2
        go_wp2_with fail
        go_ret
        exact ⟨ret_int HX.out.symm, H1.out⟩
      · have HX : Hid (V = 3) := by show V = 3; rw [HV.out]; unfold ucat; rw [if_pos q2, if_neg (fun h => h2 h.2)]
        rw [q2]
        clear q1 q2
        go_wp2_with fail
        go_ret
        exact ⟨ret_int HX.out.symm, H1.out⟩
    · have HX : Hid (V = 3) := by show V = 3; rw [HV.out]; unfold ucat; rw [if_pos q2, if_neg (fun h => h1 h.1)]
      rw [q2]
      clear q1 q2
      go_wp2_with fail
      go_ret
      exact ⟨ret_int HX.out.symm, H1.out⟩
  · have HX : Hid (V = uchk D n us) := by show V = _; rw [HV.out]; unfold ucat; rw [if_neg q2]
    have hne : (uchk D n us != 0) = true := by rw [bne_iff_ne]; exact q2
    clear q1 q2
    go_wp2_with fail
    go_ret
    exact ⟨ret_int HX.out.symm, H1.out⟩
/-- what uses.Meta answers -/
def umtE (D : Dt) (n : Nat) (us : Nat → Us) (s : ByteArray) (t : Int) : Int := if ucat D n us t = 0 then zonE D s else ucat D n us t
def umtR (D : Dt) (n : Nat) (us : Nat → Us) (s : ByteArray) (t : Int) : ByteArray := if umtE D n us s t = 0 then metR us n (D.zs (zonR D s).toNat).nm t else ⟨#[]⟩
theorem ucat_ok {D : Dt} {n : Nat} {us : Nat → Us} {t : Int} (h : ucat D n us t = 0) : uchk D n us = 0 ∧ 0 ≤ t ∧ t < 1893456000 := by
  unfold ucat at h
  split at h
  · rename_i h0
    split at h
    · rename_i h1
      exact ⟨h0, h1.1, h1.2⟩
    · cases h
  · rename_i h0
    exact absurd h h0
theorem zonE_in {D : Dt} {s : ByteArray} (h : zonE D s = 0) : ∃ k : Nat, zonR D s = k ∧ k < D.nz := by
  unfold zonE at h
  split at h
  · rename_i hc
    have hi := lead_in _ _ h
    refine ⟨(leadK D (D.nl + 1) s).1.toNat, ?_, by omega⟩
    unfold zonR
    rw [if_pos hc, if_pos h]
    omega
  · rename_i hc
    exact absurd h hc
set_option maxHeartbeats 4000000 in
theorem Meta_c (D : Dt) (a : Option Addr) (n c : Nat) (us : Nat → Us) (s : ByteArray) (t : Int) (w : World) (hE : UEnv w D a n c us) (hs : s.size ≤ maxLen) : Calls Tryz.prog 102 #[D.v, .slice a n c, .string s, .int .i64 t] w fun e w' => e = .returned (.tuple #[.string (umtR D n us s t), .int .i64 (umtE D n us s t)]) ∧ Below w.heap.size w w' := by
  have HE := hideH hE
  have hb := hideH ((Below.refl _ w).alloc (Nat.le_refl _) (.cells #[.slice D.sa D.ns D.sc, .slice D.za D.nz D.zc, .slice D.la D.nl D.lc] 26))
  have hbx := hideH (show (w.alloc (.cells #[.slice D.sa D.ns D.sc, .slice D.za D.nz D.zc, .slice D.la D.nl D.lc] 26)).heap[w.heap.size]? = some (.cells #[.slice D.sa D.ns D.sc, .slice D.za D.nz D.zc, .slice D.la D.nl D.lc] 26) from World.alloc_heap_new _ _)
  have HC : Hid (∀ v, Below w.heap.size w v → Calls Tryz.prog 141 #[D.v, .slice a n c, .int .i64 t] v fun e w' => e = .returned (.int .i64 (ucat D n us t)) ∧ Below v.heap.size v w') := fun v hv => checkAt_c D a n c us t v (HE.out.on hv)
  have HZ : Hid (∀ v, Below w.heap.size w v → Calls Tryz.prog 66 #[D.v, .string s] v fun e w' => e = .returned (.tuple #[.int .i64 (zonR D s), .int .i64 (zonE D s)]) ∧ Below v.heap.size v w') := fun v hv => DZone_c D s v (HE.out.on hv).env HE.out.dfit hs
  obtain ⟨R, hR⟩ : ∃ R, R = umtR D n us s t := ⟨_, rfl⟩
  obtain ⟨E, hEE⟩ : ∃ E, E = umtE D n us s t := ⟨_, rfl⟩
  rw [← hR, ← hEE]
  have HR := hideH hR
  have HEE := hideH hEE
  clear hR hEE hE
  go_enter Tryz.func102, Tryz.ntmps102
  go_wp2_with fail
  refine (HC.out _ hb.out).mono ?_
  rintro e w1 ⟨rfl, hw1⟩
  have H1 := hideH (bthen hb.out hw1)
  have B1 := hideH (heap_on hbx.out hw1)
  clear hw1 HC hb hbx
  rcases beq_cases (ucat D n us t) 0 with ⟨q1, q2⟩ | ⟨q1, q2⟩
  · have e1 : E = zonE D s := by rw [HEE.out]; unfold umtE; rw [if_pos q2]
    have hn10 := (uchk_ok (ucat_ok q2).1).2.1
    rw [q2]
    clear q1 q2
    obtain ⟨c0, c1, c2⟩ := cells3 B1.out
    go_wp2_with fail
    clear c0 c1 c2
    refine (HZ.out _ H1.out).mono ?_
    rintro e w2 ⟨rfl, hw2⟩
    have H2 := hideH (bthen H1.out hw2)
    have B2 := hideH (heap_on B1.out hw2)
    clear hw2 HZ H1 B1
    rcases beq_cases (zonE D s) 0 with ⟨q1, q2⟩ | ⟨q1, q2⟩
    · obtain ⟨k, hk, hkz⟩ := zonE_in q2
      have e2 : R = metR us n (D.zs k).nm t := by rw [HR.out]; unfold umtR; rw [← HEE.out, e1, if_pos q2, hk]; rfl
      have e3 : E = 0 := by rw [e1, q2]
      have HX2 := hideH e2
      have HX3 := hideH e3
      have HM : Hid (∀ v, Below w.heap.size w v → Calls Tryz.prog 142 #[.slice a n c, .string (D.zs k).nm, .int .i64 t] v fun e w' => e = .returned (.string (metR us n (D.zs k).nm t)) ∧ Below v.heap.size v w') := fun v hv => metaOf_c a n c us (D.zs k).nm t v hn10 (HE.out.on hv).at_
      rw [q2, hk]
      obtain ⟨c0, c1, c2⟩ := cells3 B2.out
      rcases (HE.out.on H2.out).env.dat.zones with h0 | ⟨b, off, hsa, hcs⟩
      · omega
      obtain ⟨d0, d1⟩ := hcs k hkz
      rw [hsa] at c1
      have hk0 : decide ((k : Int) < 0) = false := by simp
      have hkn : decide (D.nz ≤ k) = false := by simp; omega
      clear q1 q2 hcs d1 c0 c2 e1 e2 e3 hk hsa
      go_wp2_with fail
      refine (HM.out _ H2.out).mono ?_
      rintro e w3 ⟨rfl, hw3⟩
      have H3 := hideH (bthen H2.out hw3)
      clear hw3
      go_wp2_with fail
      go_ret2
      exact ⟨by rw [HX2.out, HX3.out] <;> rfl, H3.out⟩
    · have e2 : R = ⟨#[]⟩ := by rw [HR.out]; unfold umtR; rw [← HEE.out, e1, if_neg q2]
      have HX2 := hideH e2
      have HX3 := hideH e1
      have hne : (zonE D s != 0) = true := by rw [bne_iff_ne]; exact q2
      clear q1 q2 e1 e2
      go_wp2_with fail
      go_ret2
      exact ⟨by rw [HX2.out, HX3.out] <;> rfl, H2.out⟩
  · have e1 : E = ucat D n us t := by rw [HEE.out]; unfold umtE; rw [if_neg q2]
    have e2 : R = ⟨#[]⟩ := by rw [HR.out]; unfold umtR; rw [← HEE.out, e1, if_neg q2]
    have HX2 := hideH e2
    have HX3 := hideH e1
    have hne : (ucat D n us t != 0) = true := by rw [bne_iff_ne]; exact q2
    clear q1 q2 e1 e2
    go_wp2_with fail
    go_ret2
    exact ⟨by rw [HX2.out, HX3.out] <;> rfl, H1.out⟩
end Go.Proofs.YtfjjdicgekgbeaaGreatDoor
