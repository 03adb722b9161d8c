/- Contracts of package rules: bounds, letters, Std. -/
import Derived.Test.YtbpdbggojgijiaaGreatDoorPickRAll
import Derived.Deep.RegionHeld3
import Derived.KernelRfl
namespace Go.Proofs.YtbpdbggojgijiaaGreatDoor
open Go Go.RowKit
set_option linter.unusedVariables false

/-- a rule: its years, its month, its day, its second, what it saves, its letters -/
structure Rl where
  f : Int
  t : Int
  m : Int
  k : Int
  wk : Int
  D : Int
  a : Int
  sv : Int
  s : ByteArray
abbrev Rl.v (r : Rl) : Value := .agg #[.int .i64 r.f, .int .i64 r.t, .int .i64 r.m, .int .i64 r.k, .int .i64 r.wk, .int .i64 r.D, .int .i64 r.a, .int .i64 r.sv, .string r.s]
abbrev Rl.cs (r : Rl) : Array Value := #[.int .i64 r.f, .int .i64 r.t, .int .i64 r.m, .int .i64 r.k, .int .i64 r.wk, .int .i64 r.D, .int .i64 r.a, .int .i64 r.sv, .string r.s]

def bnd (r : Rl) : Bool := decide (1970 ≤ r.f ∧ r.f ≤ r.t ∧ r.t ≤ 2029 ∧ 1 ≤ r.m ∧ r.m ≤ 12 ∧ 0 ≤ r.a ∧ r.a ≤ 86400 ∧ 0 ≤ r.sv ∧ r.sv ≤ 7200)
theorem bnd_of {r : Rl} (h : bnd r = true) : 1970 ≤ r.f ∧ r.f ≤ r.t ∧ r.t ≤ 2029 ∧ 1 ≤ r.m ∧ r.m ≤ 12 ∧ 0 ≤ r.a ∧ r.a ≤ 86400 ∧ 0 ≤ r.sv ∧ r.sv ≤ 7200 := by unfold bnd at h; simpa using h
theorem bnd_mk {r : Rl} (h : 1970 ≤ r.f ∧ r.f ≤ r.t ∧ r.t ≤ 2029 ∧ 1 ≤ r.m ∧ r.m ≤ 12 ∧ 0 ≤ r.a ∧ r.a ≤ 86400 ∧ 0 ≤ r.sv ∧ r.sv ≤ 7200) : bnd r = true := by unfold bnd; simpa using h
theorem bnd_no {r : Rl} (h : ¬ (1970 ≤ r.f ∧ r.f ≤ r.t ∧ r.t ≤ 2029 ∧ 1 ≤ r.m ∧ r.m ≤ 12 ∧ 0 ≤ r.a ∧ r.a ≤ 86400 ∧ 0 ≤ r.sv ∧ r.sv ≤ 7200)) : bnd r = false := by unfold bnd; simpa using h

set_option maxHeartbeats 4000000 in
theorem inBounds_c (r : Rl) (w : World) : Calls Tryz.prog 92 #[r.v] w fun e w' => e = .returned (.bool (bnd r)) ∧ Below w.heap.size w w' := by
  have hb : (bnd r = true ∧ 1970 ≤ r.f ∧ r.f ≤ r.t ∧ r.t ≤ 2029 ∧ 1 ≤ r.m ∧ r.m ≤ 12 ∧ 0 ≤ r.a ∧ r.a ≤ 86400 ∧ 0 ≤ r.sv ∧ r.sv ≤ 7200)
      ∨ (bnd r = false ∧ (r.f < 1970 ∨ 1970 ≤ r.f ∧ (r.t < r.f ∨ r.f ≤ r.t ∧ (2029 < r.t ∨ r.t ≤ 2029 ∧ (r.m < 1 ∨ 1 ≤ r.m ∧ (12 < r.m ∨ r.m ≤ 12 ∧ (r.a < 0 ∨ 0 ≤ r.a ∧ (86400 < r.a ∨ r.a ≤ 86400 ∧ (r.sv < 0 ∨ 0 ≤ r.sv ∧ 7200 < r.sv))))))))) := by
    cases h : bnd r
    · right
      refine ⟨rfl, ?_⟩
      unfold bnd at h
      have := of_decide_eq_false h
      omega
    · exact .inl ⟨rfl, bnd_of h⟩
  obtain ⟨f, t, m, k, wk, D, a, sv, s⟩ := r
  simp only at hb
  rcases hb with ⟨h0, h1, h2, h3, h4, h5, h6, h7, h8, h9⟩ | ⟨h0, h1 | ⟨h1, h2 | ⟨h2, h3 | ⟨h3, h4 | ⟨h4, h5 | ⟨h5, h6 | ⟨h6, h7 | ⟨h7, h8 | ⟨h8, h9⟩⟩⟩⟩⟩⟩⟩⟩⟩
  all_goals
    rw [h0]
    clear h0
    go_enter Tryz.func92, Tryz.ntmps92
    go_wp2
    go_ret
    first
      | exact ⟨rfl, (Below.refl _ _).alloc (Nat.le_refl _) _⟩
      | exact ⟨ret_bool (by simp; omega), (Below.refl _ _).alloc (Nat.le_refl _) _⟩
end Go.Proofs.YtbpdbggojgijiaaGreatDoor

/- Contracts of package rules: letters, Std, and the document's own. -/
namespace Go.Proofs.YtbpdbggojgijiaaGreatDoor
open Go Go.RowKit
set_option linter.unusedVariables false

def ltrB (n : Int) : Bool := decide ((65 ≤ n ∧ n ≤ 90) ∨ (97 ≤ n ∧ n ≤ 122))
def allLet (l : List UInt8) : Bool := l.all fun c => ltrB c.toNat
theorem take_snoc (s : ByteArray) (k : Nat) (h : k < s.size) : s.data.toList.take (k + 1) = s.data.toList.take k ++ [s[k]] := by
  rw [List.take_succ_eq_append_getElem (by simpa using h)]; rfl
theorem all_snoc (s : ByteArray) (k : Nat) (h : k < s.size) (h1 : allLet (s.data.toList.take k) = true) (h2 : ltrB (s[k].toNat : Int) = true) : allLet (s.data.toList.take (k + 1)) = true := by
  rw [take_snoc s k h]; unfold allLet at *; rw [List.all_append, h1]; simpa using h2
theorem all_bad (s : ByteArray) (k : Nat) (h : k < s.size) (h2 : ltrB (s[k].toNat : Int) = false) : allLet s.data.toList = false := by
  unfold allLet
  rw [List.all_eq_false]
  exact ⟨s[k], by simp [ByteArray.getElem_eq_getElem_data], by simpa using h2⟩
theorem isLetter_c (n : Int) (w : World) (h0 : 0 ≤ n) (h255 : n ≤ 255) : Calls Tryz.prog 111 #[.int .u8 n] w fun e w' => e = .returned (.bool (ltrB n)) ∧ w' = w := by
  have h : n < 65 ∨ (65 ≤ n ∧ n ≤ 90) ∨ (90 < n ∧ n < 97) ∨ (97 ≤ n ∧ n ≤ 122) ∨ (122 < n) := by omega
  rcases h with h | ⟨h, h'⟩ | ⟨h, h'⟩ | ⟨h, h'⟩ | h
  all_goals
    go_enter Tryz.func111, Tryz.ntmps111
    go_wp2
    go_ret
    exact ⟨ret_bool (by unfold ltrB; rw [Bool.eq_iff_iff]; simp; try omega), rfl⟩
def letS (s : ByteArray) : Bool := decide (s.size ≤ 12) && allLet s.data.toList
set_option maxHeartbeats 1000000 in
theorem isLetters_c (s : ByteArray) (w : World) (hs : s.size ≤ maxLen) : Calls Tryz.prog 94 #[.string s] w fun e w' => e = .returned (.bool (letS s)) ∧ w' = w := by
  unfold maxLen at hs
  by_cases h12 : s.size ≤ 12
  · have hv : letS s = allLet s.data.toList := by simp [letS, h12]
    rw [hv]
    clear hv
    go_enter Tryz.func94, Tryz.ntmps94
    go_wp2_with fail
    go_loop [3] (fun i => ∃ k : Nat, k ≤ s.size ∧ i = .int .i64 k ∧ allLet (s.data.toList.take k) = true) (fun i => s.size - (intOf i).toNat)
    case atStart => exact ⟨0, Nat.zero_le _, rfl, rfl⟩
    case round =>
      obtain ⟨k, hk, rfl, ha⟩ := hrel
      by_cases hlt : k < s.size
      · cases hl : ltrB (s[k].toNat : Int)
        · have HB := hideH (all_bad s k hlt hl)
          clear ha
          have hb := s[k].toNat_lt
          go_wp2_with (go_at_call 111; refine (isLetter_c _ _ (by omega) (by omega)).mono ?_; rintro e w ⟨rfl, rfl⟩)
          go_ret
          exact ⟨ret_bool HB.out.symm, rfl⟩
        · have HA := hideH (all_snoc s k hlt ha hl)
          clear ha
          have hb := s[k].toNat_lt
          go_wp2_with (go_at_call 111; refine (isLetter_c _ _ (by omega) (by omega)).mono ?_; rintro e w ⟨rfl, rfl⟩)
          go_round
          case rel => exact ⟨k + 1, by omega, by go_num, HA.out⟩
          case measure => simp [intOf]; omega
      · have hk' : k = s.size := by omega
        have HA := hideH ha
        clear ha
        go_wp2_with fail
        go_ret
        exact ⟨ret_bool (by have := HA.out; rw [List.take_of_length_le (by simp; omega)] at this; exact this.symm), rfl⟩
  · have hv : letS s = false := by simp [letS, h12]
    rw [hv]
    clear hv
    go_enter Tryz.func94, Tryz.ntmps94
    go_wp2_with fail
    go_ret
    exact ⟨rfl, rfl⟩
end Go.Proofs.YtbpdbggojgijiaaGreatDoor

/- Contracts of package rules: Check. -/
namespace Go.Proofs.YtbpdbggojgijiaaGreatDoor
open Go Go.RowKit
set_option linter.unusedVariables false
/-- the nine cells of a boxed rule -/
def RBox (v : World) (b : Nat) (r : Rl) : Prop :=
  v.cell? ⟨b, 0, none⟩ = some (.int .i64 r.f) ∧ v.cell? ⟨b, 1, none⟩ = some (.int .i64 r.t) ∧ v.cell? ⟨b, 2, none⟩ = some (.int .i64 r.m) ∧ v.cell? ⟨b, 3, none⟩ = some (.int .i64 r.k) ∧ v.cell? ⟨b, 4, none⟩ = some (.int .i64 r.wk)
  ∧ v.cell? ⟨b, 5, none⟩ = some (.int .i64 r.D) ∧ v.cell? ⟨b, 6, none⟩ = some (.int .i64 r.a) ∧ v.cell? ⟨b, 7, none⟩ = some (.int .i64 r.sv) ∧ v.cell? ⟨b, 8, none⟩ = some (.string r.s)
theorem cell_on {w w' : World} {b o : Nat} {x : Value} (h : w.cell? ⟨b, o, none⟩ = some x) (hb : Below w.heap.size w w') : w'.cell? ⟨b, o, none⟩ = some x := by
  rw [hb.cell (p := ⟨b, o, none⟩) (cell_lt h)]; exact h
theorem RBox.on {w w' : World} {b : Nat} {r : Rl} (h : RBox w b r) (hb : Below w.heap.size w w') : RBox w' b r := by
  obtain ⟨h0, h1, h2, h3, h4, h5, h6, h7, h8⟩ := h
  exact ⟨cell_on h0 hb, cell_on h1 hb, cell_on h2 hb, cell_on h3 hb, cell_on h4 hb, cell_on h5 hb, cell_on h6 hb, cell_on h7 hb, cell_on h8 hb⟩
theorem RBox.lt {w : World} {b : Nat} {r : Rl} (h : RBox w b r) : b < w.heap.size := cell_lt h.1
theorem rbox_new (w : World) (r : Rl) : RBox (w.alloc (.cells r.cs 65)) w.heap.size r := by
  refine ⟨?_, ?_, ?_, ?_, ?_, ?_, ?_, ?_, ?_⟩ <;> go_simp

def yrsOK (r : Rl) : Bool := (List.range (r.t - r.f + 1).toNat).all fun i => findE (r.f + i) r.m r.k r.wk r.D == 0
theorem yrs_iff (r : Rl) : yrsOK r = true ↔ ∀ y, r.f ≤ y → y ≤ r.t → findE y r.m r.k r.wk r.D = 0 := by
  unfold yrsOK
  rw [List.all_eq_true]
  constructor
  · intro h y h1 h2
    have := h (y - r.f).toNat (List.mem_range.2 (by omega))
    have e : r.f + ((y - r.f).toNat : Int) = y := by omega
    rw [e] at this
    simpa using this
  · intro h i hi
    have := List.mem_range.1 hi
    simpa using h (r.f + i) (by omega) (by omega)
/-- what is wrong with a rule -/
def rchk (r : Rl) : Int := if bnd r then (if chk r.k r.wk r.D = 0 then (if letS r.s then (if yrsOK r then 0 else 4) else 5) else chk r.k r.wk r.D) else 3
theorem find_four (y m k wk D : Int) (hy1 : 1970 ≤ y) (hy2 : y ≤ 2029) (hm1 : 1 ≤ m) (hm2 : m ≤ 12) (hk : chk k wk D = 0) (h : findE y m k wk D ≠ 0) : findE y m k wk D = 4 := by
  have lb := Cal.ml_bd y m
  have hok : Cal.okB y m 1 = true := ok_mk (by omega)
  simp only [findE, hk, hok, if_true] at h ⊢
  split at h
  · simp_all
  · exact absurd rfl h
theorem rchk_cases (r : Rl) : (bnd r = false ∧ rchk r = 3) ∨ (bnd r = true ∧ ((chk r.k r.wk r.D ≠ 0 ∧ rchk r = chk r.k r.wk r.D) ∨ (chk r.k r.wk r.D = 0 ∧ ((letS r.s = false ∧ rchk r = 5) ∨ (letS r.s = true ∧ ((yrsOK r = false ∧ rchk r = 4) ∨ (yrsOK r = true ∧ rchk r = 0))))))) := by
  unfold rchk
  cases bnd r
  · exact .inl ⟨rfl, by simp⟩
  · refine .inr ⟨rfl, ?_⟩
    by_cases h : chk r.k r.wk r.D = 0
    · right
      refine ⟨h, ?_⟩
      cases letS r.s
      · exact .inl ⟨rfl, by simp [h]⟩
      · refine .inr ⟨rfl, ?_⟩
        cases yrsOK r
        · exact .inl ⟨rfl, by simp [h]⟩
        · exact .inr ⟨rfl, by simp [h]⟩
    · exact .inl ⟨h, by simp [h]⟩

set_option maxHeartbeats 4000000 in
theorem RCheck_c (r : Rl) (w : World) (hL : Laid w) (hs : r.s.size ≤ maxLen) : Calls Tryz.prog 78 #[r.v] w fun e w' => e = .returned (.int .i64 (rchk r)) ∧ Below w.heap.size w w' := by
  have HL := hideH hL
  have HS := hideH hs
  clear hL hs
  have hc := rchk_cases r
  have hyi := hideH (yrs_iff r)
  have h4 : bnd r = true → chk r.k r.wk r.D = 0 → ∀ y, r.f ≤ y → y ≤ r.t → findE y r.m r.k r.wk r.D ≠ 0 → findE y r.m r.k r.wk r.D = 4 := by
    intro hb hk y h1 h2 h3
    have := bnd_of hb
    exact find_four y _ _ _ _ (by omega) (by omega) (by omega) (by omega) hk h3
  have H4 := hideH h4
  clear h4
  generalize rchk r = RC at *
  have hbx := hideH (rbox_new w r)
  have H0 : Hid (Below w.heap.size w (w.alloc (.cells r.cs 65))) := (Below.refl _ _).alloc (Nat.le_refl _) _
  have L0 := hideH (HL.out.on H0.out)
  go_enter Tryz.func78, Tryz.ntmps78
  go_wp2_with fail
  refine (inBounds_c r _).mono ?_
  rintro e w1 ⟨rfl, hw1⟩
  have H1 : Hid (Below w.heap.size w w1) := bthen H0.out hw1
  have L1 : Hid (Laid w1) := HL.out.on H1.out
  have B1 : Hid (RBox w1 w.heap.size r) := hbx.out.on hw1
  clear hw1 hbx H0 L0
  rcases hc with ⟨b1, rc⟩ | ⟨b1, hc⟩
  · rw [b1]
    have RCH := hideH rc
    clear b1 rc hyi H4
    go_wp2_with fail
    go_ret
    exact ⟨ret_int RCH.out.symm, H1.out⟩
  · rw [b1]
    have BD := hideH b1
    clear b1
    obtain ⟨c0, c1, c2, c3, c4, c5, c6, c7, c8⟩ := B1.out
    go_wp2_with fail
    refine (Check_c _ _ _ _).mono ?_
    rintro e w2 ⟨rfl, hw2⟩
    have H2 := hideH (bthen H1.out hw2)
    have L2 := hideH (L1.out.on hw2)
    have B2 := hideH (B1.out.on hw2)
    clear hw2 c0 c1 c2 c3 c4 c5 c6 c7 c8 B1 L1 H1
    rcases hc with ⟨k1, rc⟩ | ⟨k1, hc⟩
    · have RCH := hideH rc
      have hne : (chk r.k r.wk r.D != 0) = true := by rw [bne_iff_ne]; exact k1
      clear rc hyi H4 k1
      go_wp2_with fail
      go_ret
      exact ⟨ret_int RCH.out.symm, H2.out⟩
    · rw [k1]
      have CK := hideH k1
      clear k1
      obtain ⟨c0, c1, c2, c3, c4, c5, c6, c7, c8⟩ := B2.out
      go_wp2_with fail
      refine (isLetters_c _ _ HS.out).mono ?_
      rintro e w2 ⟨rfl, rfl⟩
      rcases hc with ⟨k1, rc⟩ | ⟨k1, hc⟩
      · rw [k1]
        have RCH := hideH rc
        clear rc hyi H4 k1
        go_wp2_with fail
        go_ret
        exact ⟨ret_int RCH.out.symm, H2.out⟩
      · rw [k1]
        clear k1
        have hbd := bnd_of BD.out
        go_wp2_with fail
        clear c0 c1 c2 c3 c4 c5 c6 c7 c8
        go_loopw [4] (fun n v => ∃ j : Int, r.f ≤ j ∧ j ≤ r.t + 1 ∧ n = .int .i64 j ∧ Hid (∀ y, r.f ≤ y → y < j → findE y r.m r.k r.wk r.D = 0) ∧ Hid (RBox v w.heap.size r) ∧ Hid (Laid v) ∧ Hid (Below w.heap.size w v)) (fun n _ => (r.t + 1 - intOf n).toNat)
        case atStart => exact ⟨r.f, by omega, by omega, rfl, fun y h1 h2 => by omega, B2, L2, H2⟩
        case round =>
          obtain ⟨j, hj1, hj2, rfl, HA, HB, HLv, HW⟩ := hrel
          obtain ⟨c0, c1, c2, c3, c4, c5, c6, c7, c8⟩ := HB.out
          clear B2 L2 H2
          by_cases hlt : j ≤ r.t
          · go_wp2_with fail
            refine (Find_c _ _ _ _ _ _ HLv.out).mono ?_
            rintro e w3 ⟨rfl, hw3⟩
            have H3 := hideH (bthen HW.out hw3)
            have L3 := hideH (HLv.out.on hw3)
            have B3 := hideH (HB.out.on hw3)
            clear hw3 c0 c1 c2 c3 c4 c5 c6 c7 c8 HB HLv HW
            rcases beq_cases (findE j r.m r.k r.wk r.D) 0 with ⟨q1, q2⟩ | ⟨q1, q2⟩
            · have Q2 := hideH q2
              rw [q2]
              clear q1 q2
              go_wp2_with fail
              exact ⟨⟨j + 1, by omega, by omega, rfl, fun y h1 h2 => by
                by_cases hy : y = j
                · rw [hy]; exact Q2.out
                · exact HA.out y h1 (by omega), B3, L3, H3⟩, by simp [intOf]; omega⟩
            · have q3 := H4.out BD.out CK.out j hj1 hlt q2
              have hno : yrsOK r = false := by
                cases hy : yrsOK r
                · rfl
                · exact absurd ((hyi.out.1 hy) j hj1 hlt) q2
              have hrc : RC = 4 := by
                rcases hc with ⟨_, h⟩ | ⟨h, _⟩
                · exact h
                · rw [hno] at h; cases h
              rw [q3]
              have RCH := hideH hrc
              clear q1 q2 q3 hno hrc hc hyi H4
              go_wp2_with fail
              go_ret
              exact ⟨ret_int RCH.out.symm, H3.out⟩
          · have hall : yrsOK r = true := hyi.out.2 (fun y h1 h2 => HA.out y h1 (by omega))
            have hrc : RC = 0 := by
              rcases hc with ⟨h, _⟩ | ⟨_, h⟩
              · rw [hall] at h; cases h
              · exact h
            have RCH := hideH hrc
            clear hall hrc hc hyi H4
            go_wp2_with fail
            go_ret
            exact ⟨ret_int RCH.out.symm, HW.out⟩
end Go.Proofs.YtbpdbggojgijiaaGreatDoor

/- Contracts of package rules: begin, At. -/
namespace Go.Proofs.YtbpdbggojgijiaaGreatDoor
open Go Go.RowKit
set_option linter.unusedVariables false

/-- when a rule begins in a year -/
def begR (r : Rl) (y std : Int) : Int := daysR y r.m (findR y r.m r.k r.wk r.D) * 86400 + r.a - std
def atOK (r : Rl) (y std : Int) : Bool := decide (r.f ≤ y ∧ y ≤ r.t) && inB std (-50400) 50400
def atR (r : Rl) (y std : Int) : Int := if rchk r = 0 ∧ atOK r y std = true then begR r y std else 0
def atE (r : Rl) (y std : Int) : Int := if rchk r = 0 then (if atOK r y std then 0 else 3) else rchk r
theorem rchk_bnd {r : Rl} (h : rchk r = 0) : bnd r = true := by
  cases hb : bnd r
  · simp [rchk, hb] at h
  · rfl
end Go.Proofs.YtbpdbggojgijiaaGreatDoor

/- Plain facts on what has begun last: no program is named here. -/
namespace Go.Proofs.YtbpdbggojgijiaaGreatDoor
namespace Lat
/-- one more time n of rule i -/
def step (t : Int) (acc : Int × Int) (i n : Int) : Int × Int := if n ≤ t ∧ (acc.1 < 0 ∨ acc.2 ≤ n) then (i, n) else acc
/-- n years of rule i, from year f on -/
def yrsTo (t : Int) (g : Int → Int) (i f : Int) (acc : Int × Int) : Nat → Int × Int
  | 0 => acc
  | n + 1 => step t (yrsTo t g i f acc n) i (g (f + n))
/-- the first k rules -/
def lat (t : Int) (fs ts : Nat → Int) (g : Nat → Int → Int) : Nat → Int × Int
  | 0 => (-1, 0)
  | k + 1 => yrsTo t (g k) k (fs k) (lat t fs ts g k) (ts k - fs k + 1).toNat

/-- what holds of the last one among those that P tells -/
def Inv (t : Int) (g : Nat → Int → Int) (P : Nat → Int → Prop) (acc : Int × Int) : Prop :=
  (acc = (-1, 0) ∧ ∀ i y, P i y → t < g i y) ∨
  ∃ i y, P i y ∧ acc = ((i : Int), g i y) ∧ g i y ≤ t ∧ ∀ i' y', P i' y' → g i' y' ≤ t → g i' y' < g i y ∨ (g i' y' = g i y ∧ i' ≤ i)

theorem inv_step (t : Int) (g : Nat → Int → Int) (P : Nat → Int → Prop) (acc : Int × Int) (k : Nat) (y : Int) (h : Inv t g P acc) (hk : ∀ i z, P i z → i ≤ k) :
    Inv t g (fun i z => P i z ∨ (i = k ∧ z = y)) (step t acc k (g k y)) := by
  unfold step
  rcases h with ⟨rfl, h⟩ | ⟨i, z, hp, rfl, hle, hall⟩
  · by_cases hn : g k y ≤ t
    · rw [if_pos ⟨hn, Or.inl (by simp)⟩]
      refine .inr ⟨k, y, .inr ⟨rfl, rfl⟩, rfl, hn, ?_⟩
      rintro i' y' (h1 | ⟨rfl, rfl⟩) h2
      · have := h i' y' h1; omega
      · exact .inr ⟨rfl, Nat.le_refl _⟩
    · rw [if_neg (fun h => hn h.1)]
      refine .inl ⟨rfl, ?_⟩
      rintro i' y' (h1 | ⟨rfl, rfl⟩)
      · exact h i' y' h1
      · omega
  · by_cases hn : g k y ≤ t ∧ g i z ≤ g k y
    · rw [if_pos ⟨hn.1, Or.inr hn.2⟩]
      refine .inr ⟨k, y, .inr ⟨rfl, rfl⟩, rfl, hn.1, ?_⟩
      rintro i' y' (h1 | ⟨rfl, rfl⟩) h2
      · have hik := hk i' y' h1
        rcases hall i' y' h1 h2 with h3 | ⟨h3, h4⟩
        · left; omega
        · rcases Int.lt_or_eq_of_le hn.2 with h5 | h5
          · left; omega
          · right; exact ⟨by omega, hik⟩
      · exact .inr ⟨rfl, Nat.le_refl _⟩
    · rw [if_neg (fun h => by rcases h with ⟨a, b | b⟩ <;> simp only at b <;> omega)]
      refine .inr ⟨i, z, .inl hp, rfl, hle, ?_⟩
      rintro i' y' (h1 | ⟨rfl, rfl⟩) h2
      · exact hall i' y' h1 h2
      · left; omega

theorem inv_yrs (t : Int) (g : Nat → Int → Int) (P : Nat → Int → Prop) (acc : Int × Int) (k : Nat) (f : Int) (h : Inv t g P acc) (hk : ∀ i z, P i z → i ≤ k) (n : Nat) :
    Inv t g (fun i z => P i z ∨ (i = k ∧ f ≤ z ∧ z < f + n)) (yrsTo t (g k) k f acc n) := by
  induction n with
  | zero =>
    have e : (fun i z => P i z ∨ (i = k ∧ f ≤ z ∧ z < f + (0 : Nat))) = P := by
      funext i z
      apply propext
      constructor
      · rintro (h1 | ⟨_, h2, h3⟩)
        · exact h1
        · exfalso; omega
      · exact .inl
    rw [e]; exact h
  | succ n ih =>
    have := inv_step t g _ _ k (f + n) ih (by rintro i z (h1 | ⟨rfl, _⟩); · exact hk i z h1
                                              · exact Nat.le_refl _)
    have e : (fun i z => P i z ∨ (i = k ∧ f ≤ z ∧ z < f + ((n + 1 : Nat) : Int))) = (fun i z => (P i z ∨ (i = k ∧ f ≤ z ∧ z < f + (n : Int))) ∨ (i = k ∧ z = f + n)) := by
      funext i z
      apply propext
      constructor
      · rintro (h1 | ⟨h2, h3, h4⟩)
        · exact .inl (.inl h1)
        · by_cases hz : z = f + n
          · exact .inr ⟨h2, hz⟩
          · exact .inl (.inr ⟨h2, h3, by omega⟩)
      · rintro ((h1 | ⟨h2, h3, h4⟩) | ⟨h2, h3⟩)
        · exact .inl h1
        · exact .inr ⟨h2, h3, by omega⟩
        · exact .inr ⟨h2, by omega, by omega⟩
    rw [e]
    exact this

theorem inv_lat (t : Int) (fs ts : Nat → Int) (g : Nat → Int → Int) (k : Nat) : Inv t g (fun i y => i < k ∧ fs i ≤ y ∧ y ≤ ts i) (lat t fs ts g k) := by
  induction k with
  | zero => exact .inl ⟨rfl, fun i y h => absurd h.1 (Nat.not_lt_zero _)⟩
  | succ k ih =>
    have := inv_yrs t g _ _ k (fs k) ih (fun i z h => Nat.le_of_lt h.1) (ts k - fs k + 1).toNat
    have e : (fun i y => i < k + 1 ∧ fs i ≤ y ∧ y ≤ ts i) = (fun i z => (i < k ∧ fs i ≤ z ∧ z ≤ ts i) ∨ (i = k ∧ fs k ≤ z ∧ z < fs k + ((ts k - fs k + 1).toNat : Int))) := by
      funext i z
      apply propext
      constructor
      · rintro ⟨h1, h2, h3⟩
        by_cases hi : i = k
        · subst hi; exact .inr ⟨rfl, h2, by omega⟩
        · exact .inl ⟨by omega, h2, h3⟩
      · rintro (⟨h1, h2, h3⟩ | ⟨rfl, h2, h3⟩)
        · exact ⟨by omega, h2, h3⟩
        · exact ⟨by omega, h2, by omega⟩
    rw [e]
    exact this

/-- what was found is the only one of which Inv holds -/
theorem inv_unique (t : Int) (g : Nat → Int → Int) (P : Nat → Int → Prop) (a b : Int × Int) (h : Inv t g P a) (k : Inv t g P b) : a = b := by
  rcases h with ⟨rfl, h⟩ | ⟨i, y, hp, rfl, hle, hall⟩ <;> rcases k with ⟨rfl, k⟩ | ⟨j, z, kp, rfl, kle, kall⟩
  · rfl
  · have := h j z kp; omega
  · have := k i y hp; omega
  · have h1 := hall j z kp kle
    have h2 := kall i y hp hle
    have : g i y = g j z := by omega
    have e : i = j := by omega
    subst e
    exact Prod.ext rfl (by simp only; omega)
/-- who asks later is not told less -/
theorem inv_mono (t u : Int) (htu : t ≤ u) (g : Nat → Int → Int) (P : Nat → Int → Prop) (a b : Int × Int) (h : Inv t g P a) (k : Inv u g P b) (ha : 0 ≤ a.1) : 0 ≤ b.1 ∧ a.2 ≤ b.2 := by
  rcases h with ⟨rfl, h⟩ | ⟨i, y, hp, rfl, hle, hall⟩
  · simp at ha
  · rcases k with ⟨rfl, k⟩ | ⟨j, z, kp, rfl, kle, kall⟩
    · have := k i y hp; omega
    · have := kall i y hp (by omega)
      simp only
      omega
/-- at the time that was told the same is told -/
theorem inv_again (t : Int) (g : Nat → Int → Int) (P : Nat → Int → Prop) (a : Int × Int) (h : Inv t g P a) (ha : 0 ≤ a.1) : Inv a.2 g P a := by
  rcases h with ⟨rfl, h⟩ | ⟨i, y, hp, rfl, hle, hall⟩
  · simp at ha
  · exact .inr ⟨i, y, hp, rfl, Int.le_refl _, fun i' y' h1 h2 => hall i' y' h1 (by simp only at h2; omega)⟩
end Lat
end Go.Proofs.YtbpdbggojgijiaaGreatDoor
