/- The document's own CheckData whole: it answers what data.Check answers. -/
import Derived.Test.YtcdokhjmpkcpnabDoorRefRAll
import Derived.Test.YtcdokhjmpkcpnabDoorRefK
import Derived.Test.YtcdokhjmpkcpnabDoorLinksM
import Derived.Test.YtcdokhjmpkcpnabDoorRefGAll
namespace Go.Proofs.YtcdokhjmpkcpnabDoor
open Go Go.RowKit Go.Maps
set_option linter.unusedVariables false

theorem lead_two {D : Dt} (h1 : lnk1 D) : ∀ (k : Nat) (s : ByteArray), (idx D s).isSome = true → (leadK D k s).2 = 0 ∨ (leadK D k s).2 = 7
  | 0, _, _ => .inr rfl
  | k + 1, s, h => by
    cases hi : idx D s with
    | none => rw [hi] at h; cases h
    | some j =>
      have hj := (idx_some hi).1
      simp only [leadK, hi]
      by_cases hz : j < D.nz
      · rw [if_pos hz]; exact .inl rfl
      · rw [if_neg hz]; exact lead_two h1 k _ (h1 (j - D.nz) (by omega))
theorem own_idx {D : Dt} {j : Nat} (hj : j < D.nl) : (idx D (D.ls j).nm).isSome = true := by
  cases hi : idx D (D.ls j).nm with
  | some k => rfl
  | none => exact absurd (by rw [nms_link]) (idx_none hi (D.nz + j) (by omega))
theorem fstE_or (f : Nat → Int) : ∀ n, fstE f n = 0 ∨ ∃ k, k < n ∧ fstE f n = f k
  | 0 => .inl rfl
  | n + 1 => by
    rcases fstE_or f n with h | ⟨k, h1, h2⟩
    · by_cases hn : f n = 0
      · left
        exact fstE_zero fun i hi => by
          rcases Nat.lt_or_ge i n with h3 | h3
          · exact fstE_all h i h3
          · obtain rfl : i = n := by omega
            exact hn
      · right
        exact ⟨n, by omega, fstE_at (fun i hi => fstE_all h i hi) hn (by omega)⟩
    · by_cases h0 : fstE f n = 0
      · by_cases hn : f n = 0
        · left
          exact fstE_zero fun i hi => by
            rcases Nat.lt_or_ge i n with h3 | h3
            · exact fstE_all h0 i h3
            · obtain rfl : i = n := by omega
              exact hn
        · exact .inr ⟨n, by omega, fstE_at (fun i hi => fstE_all h0 i hi) hn (by omega)⟩
      · by_cases ha : fstE f (n + 1) = 0
        · exact .inl ha
        · refine .inr ⟨k, by omega, ?_⟩
          rw [← h2]
          simp only [fstE] at ha ⊢
          split at ha <;> simp_all
theorem lnk2_val {D : Dt} (h1 : lnk1 D) : lnk2 D = if ∀ j, j < D.nl → (leadK D (D.nl + 1) (D.ls j).nm).2 = 0 then 0 else 7 := by
  unfold lnk2
  by_cases h : ∀ j, j < D.nl → (leadK D (D.nl + 1) (D.ls j).nm).2 = 0
  · rw [if_pos h]; exact fstE_zero h
  · rw [if_neg h]
    rcases fstE_or (fun j => (leadK D (D.nl + 1) (D.ls j).nm).2) D.nl with h0 | ⟨k, h2, h3⟩
    · exact absurd (fun j hj => fstE_all h0 j hj) h
    · rw [h3]
      rcases lead_two h1 (D.nl + 1) (D.ls k).nm (own_idx h2) with h4 | h4
      · exfalso
        have h5 : fstE (fun j => (leadK D (D.nl + 1) (D.ls j).nm).2) D.nl = 0 := h3.trans h4
        exact h (fun j hj => fstE_all h5 j hj)
      · exact h4
theorem catL_mk {pn : Nat → Nat} {pf : Nat → Nat → ByteArray} {i j : Nat} : ∀ {k : Nat}, i < k → j < pn i → pf i j ∈ catL pn pf k
  | 0, h, _ => by omega
  | k + 1, h, hj => by
    unfold catL
    rcases Nat.lt_or_ge i k with h1 | h1
    · exact List.mem_append.2 (.inl (catL_mk h1 hj))
    · obtain rfl : i = k := by omega
      exact List.mem_append.2 (.inr (List.mem_map.2 ⟨j, List.mem_range.2 hj, rfl⟩))
theorem alN_mem {D : Dt} {j : Nat} (hj : j < D.ns + D.nz + 2 * D.nl) : alN D j ∈ allN D := by
  unfold alN allN
  by_cases h1 : j < D.ns
  · rw [if_pos h1]; exact catL_mk (i := 0) (pf := f4 D) (by omega) h1
  · rw [if_neg h1]
    by_cases h2 : j < D.ns + D.nz
    · rw [if_pos h2]; exact catL_mk (i := 1) (j := j - D.ns) (pf := f4 D) (by omega) (by show j - D.ns < D.nz; omega)
    · rw [if_neg h2]
      by_cases h3 : (j - (D.ns + D.nz)) % 2 = 0
      · rw [if_pos h3]; exact catL_mk (i := 2) (j := (j - (D.ns + D.nz)) / 2) (pf := f4 D) (by omega) (by show _ < D.nl; omega)
      · rw [if_neg h3]; exact catL_mk (i := 3) (j := (j - (D.ns + D.nz)) / 2) (pf := f4 D) (by omega) (by show _ < D.nl; omega)
theorem names_iff (D : Dt) : (∀ j, j < D.ns + D.nz + 2 * D.nl → nameB (alN D j) = true) ↔ namesOK D := by
  constructor
  · intro h s hs
    obtain ⟨i, hi, j, hj, e⟩ := catL_mem hs
    subst e
    have hc : i = 0 ∨ i = 1 ∨ i = 2 ∨ i = 3 := by omega
    rcases hc with rfl | rfl | rfl | rfl
    · have hj' : j < D.ns := hj
      have := h j (by omega)
      rw [alN_set hj'] at this; exact this
    · have hj' : j < D.nz := hj
      have := h (D.ns + j) (by omega)
      rw [alN_zone hj'] at this
      unfold nms at this; rw [if_pos hj'] at this; exact this
    · have hj' : j < D.nl := hj
      have := h (D.ns + D.nz + 2 * j) (by omega)
      rw [alN_nm] at this; exact this
    · have hj' : j < D.nl := hj
      have := h (D.ns + D.nz + 2 * j + 1) (by omega)
      rw [alN_to] at this; exact this
  · intro h j hj
    exact h _ (alN_mem hj)
theorem chk_2 {D : Dt} (h : ¬ (few1 D ∧ few2 D ∧ few3 D)) : chkE D = 2 := by
  unfold chkE
  rw [if_neg]
  intro hf
  unfold few at hf
  simp only [Bool.and_eq_true, decide_eq_true_eq] at hf
  exact h ⟨hf.1, hf.2.1, hf.2.2⟩
theorem few_mk {D : Dt} (h1 : few1 D) (h2 : few2 D) (h3 : few3 D) : few D = true := by
  unfold few; simp only [Bool.and_eq_true, decide_eq_true_eq]; exact ⟨h1, h2, h3⟩
theorem chk_5 {D : Dt} (h1 : few D = true) (h2 : ¬ namesOK D) : chkE D = 5 := by unfold chkE; rw [if_pos h1, if_neg h2]
theorem chk_6 {D : Dt} (h1 : few D = true) (h2 : namesOK D) (h3 : ¬ (dist (fun j => (D.ss j).nm) D.ns ∧ dist (nms D) (D.nz + D.nl))) : chkE D = 6 := by
  unfold chkE
  rw [if_pos h1, if_pos h2]
  by_cases a : dist (fun j => (D.ss j).nm) D.ns
  · rw [if_pos a, if_neg (fun b => h3 ⟨a, b⟩)]
  · rw [if_neg a]
theorem chk_r {D : Dt} (h1 : few D = true) (h2 : namesOK D) (h3 : dist (fun j => (D.ss j).nm) D.ns) (h4 : dist (nms D) (D.nz + D.nl)) (h5 : rulE D ≠ 0) : chkE D = rulE D := by
  unfold chkE; rw [if_pos h1, if_pos h2, if_pos h3, if_pos h4, if_neg h5]
theorem chk_3 {D : Dt} (h1 : few D = true) (h2 : namesOK D) (h3 : dist (fun j => (D.ss j).nm) D.ns) (h4 : dist (nms D) (D.nz + D.nl)) (h5 : rulE D = 0) (h6 : ¬ ersOK D) : chkE D = 3 := by
  unfold chkE; rw [if_pos h1, if_pos h2, if_pos h3, if_pos h4, if_pos h5, if_neg h6]
theorem chk_1 {D : Dt} (h1 : few D = true) (h2 : namesOK D) (h3 : dist (fun j => (D.ss j).nm) D.ns) (h4 : dist (nms D) (D.nz + D.nl)) (h5 : rulE D = 0) (h6 : ersOK D) (h7 : ¬ fmts D) : chkE D = 1 := by
  unfold chkE; rw [if_pos h1, if_pos h2, if_pos h3, if_pos h4, if_pos h5, if_pos h6, if_neg h7]
theorem chk_l {D : Dt} (h1 : few D = true) (h2 : namesOK D) (h3 : dist (fun j => (D.ss j).nm) D.ns) (h4 : dist (nms D) (D.nz + D.nl)) (h5 : rulE D = 0) (h6 : ersOK D) (h7 : fmts D) : chkE D = if lnk1 D then (if ∀ j, j < D.nl → (leadK D (D.nl + 1) (D.ls j).nm).2 = 0 then 0 else 7) else 4 := by
  unfold chkE; rw [if_pos h1, if_pos h2, if_pos h3, if_pos h4, if_pos h5, if_pos h6, if_pos h7]
  by_cases hl : lnk1 D
  · rw [if_pos hl, if_pos hl, lnk2_val hl]
  · rw [if_neg hl, if_neg hl]
set_option maxRecDepth 1000000 in
set_option maxHeartbeats 4000000 in
theorem cd_all {D : Dt} {w : World} (hD : DAt w D) (hF : D.fits) (h1 : few1 D) : (few2 D → CD4 D w (chkE D)) ∧ (¬ few2 D → chkE D = 2) := by
  obtain ⟨n1, n2, n3⟩ := h1
  have HD := hideH hD
  have HF := hideH hF
  refine ⟨fun f2 => ?_, fun h => chk_2 (fun x => h x.2.1)⟩
  have K12 : few D = true → namesOK D → dist (fun j => (D.ss j).nm) D.ns → dist (nms D) (D.nz + D.nl) → rulE D = 0 → ersOK D → fmts D → CD12 D w (chkE D) := by
    intro a1 a2 a3 a4 a5 a6 a7 W
    intros
    rename_i HW HC
    exact cd12 HD HF n3 n2 HW HC (chk_l a1 a2 a3 a4 a5 a6 a7)
  have K11 : few3 D → few D = true → namesOK D → dist (fun j => (D.ss j).nm) D.ns → dist (nms D) (D.nz + D.nl) → rulE D = 0 → ersOK D → CD11 D w (chkE D) := by
    intro a0 a1 a2 a3 a4 a5 a6 W
    intros
    rename_i HW HC
    exact cd11 HD HF n2 (fun j hj => (a0 j hj).2) HW HC (K12 a1 a2 a3 a4 a5 a6) (chk_1 a1 a2 a3 a4 a5 a6)
  have K10 : few3 D → few D = true → namesOK D → dist (fun j => (D.ss j).nm) D.ns → dist (nms D) (D.nz + D.nl) → rulE D = 0 → CD10 D w (chkE D) := by
    intro a0 a1 a2 a3 a4 a5 W
    intros
    rename_i HW HC
    exact cd10 HD HF n1 n2 (fun j hj => (a0 j hj).2) HW HC (K11 a0 a1 a2 a3 a4 a5) (chk_3 a1 a2 a3 a4 a5)
  have K9 : few3 D → few D = true → namesOK D → dist (fun j => (D.ss j).nm) D.ns → dist (nms D) (D.nz + D.nl) → CD9 D w (chkE D) := by
    intro a0 a1 a2 a3 a4 W
    intros
    rename_i HW HC
    exact cd9 HD HF n1 (fun j hj => (f2 j hj).2) HW HC (K10 a0 a1 a2 a3 a4) (chk_r a1 a2 a3 a4)
  have K8 : few3 D → few D = true → namesOK D → CD8 D w (chkE D) := by
    intro a0 a1 a2 W b3 b4 q3 q4
    intros
    rename_i HW HC R3 R4
    exact cd8 n1 (by omega) HW HC R3 R4 (K9 a0 a1 a2) (chk_6 a1 a2)
  have K7 : few3 D → few D = true → CD7 D w (chkE D) := by
    intro a0 a1 W b3 b4 q3 q4 q7 b7
    intros
    rename_i HW HC R3 R4 R7
    exact cd7 (by omega) (fun j hj => allN_size HF.out (alN_mem hj)) HW HC R3 R4 R7 (fun h => K8 a0 a1 ((names_iff D).1 h)) (fun h => chk_5 a1 (fun x => h ((names_iff D).2 x)))
  have K6 : few3 D → few D = true → CD6 D w (chkE D) := by
    intro a0 a1 W v3 v4 g7 q7
    intros
    rename_i HW HC O3 O4 O7 A34 A37 A47
    exact cd6 n1 n2 n3 HD HW HC O3 O4 O7 A34 A37 A47 (K7 a0 a1)
  have K5 : few3 D → CD5 D w (chkE D) := by
    intro a0 W v3 v4
    intros
    rename_i HW HC O3 O4 Z3 Z4 A34
    exact cd5 n1 n2 HW HC O3 O4 Z3 Z4 A34 (K6 a0 (few_mk ⟨n1, n2, n3⟩ f2 a0))
  intro W v3
  intros
  rename_i HW HC O3 Z3
  exact cd4 n2 HD HW HC O3 Z3 K5 (fun h => chk_2 (fun x => h x.2.2))
end Go.Proofs.YtcdokhjmpkcpnabDoor

/- The document's own CheckData and ZoneOf: contracts. -/
namespace Go.Proofs.YtcdokhjmpkcpnabDoor
open Go Go.RowKit Go.Maps
set_option linter.unusedVariables false

set_option maxRecDepth 1000000 in
set_option maxHeartbeats 4000000 in
theorem CheckData_c (D : Dt) (w : World) (hD : DAt w D) (hF : D.fits) : Calls Tryd.prog 21 #[D.v] w fun e w' => e = .returned (.int .i64 (chkE D)) ∧ Below w.heap.size w w' := by
  have m1 := hF.ns
  have m2 := hF.nz
  have m3 := hF.nl
  unfold maxLen at m1 m2 m3
  have HB := hideH ((Below.refl _ w).alloc (Nat.le_refl _) (.cells #[.slice D.sa D.ns D.sc, .slice D.za D.nz D.zc, .slice D.la D.nl D.lc] 43))
  have HC : Hid ((w.alloc (.cells #[.slice D.sa D.ns D.sc, .slice D.za D.nz D.zc, .slice D.la D.nl D.lc] 43)).heap[w.heap.size]? = some (.cells #[.slice D.sa D.ns D.sc, .slice D.za D.nz D.zc, .slice D.la D.nl D.lc] 43)) := heap_alloc_new w _
  have hc : 3 < D.ns ∨ (D.ns ≤ 3 ∧ 5 < D.nz) ∨ (D.ns ≤ 3 ∧ D.nz ≤ 5 ∧ 4 < D.nl) ∨ (D.ns ≤ 3 ∧ D.nz ≤ 5 ∧ D.nl ≤ 4) := by omega
  rcases hc with h | ⟨h1, h⟩ | ⟨h1, h2, h⟩ | ⟨h1, h2, h3⟩
  · have HX := hideH (chk_2 (D := D) (fun x => by have := x.1.1; omega))
    have t1 : (3 : Int) < (D.ns : Int) := by omega
    clear hD hF
    go_enter Tryd.func21, Tryd.ntmps21
    go_wp2_with fail
    go_ret
    exact ⟨ret_int HX.out.symm, HB.out⟩
  · have HX := hideH (chk_2 (D := D) (fun x => by have := x.1.2.1; omega))
    have t1 : (D.ns : Int) ≤ 3 := by omega
    have t2 : (5 : Int) < (D.nz : Int) := by omega
    clear hD hF
    go_enter Tryd.func21, Tryd.ntmps21
    go_wp2_with fail
    go_ret
    exact ⟨ret_int HX.out.symm, HB.out⟩
  · have HX := hideH (chk_2 (D := D) (fun x => by have := x.1.2.2; omega))
    have t1 : (D.ns : Int) ≤ 3 := by omega
    have t2 : (D.nz : Int) ≤ 5 := by omega
    have t3 : (4 : Int) < (D.nl : Int) := by omega
    clear hD hF
    go_enter Tryd.func21, Tryd.ntmps21
    go_wp2_with fail
    go_ret
    exact ⟨ret_int HX.out.symm, HB.out⟩
  · have HA := hideH (cd_all hD hF ⟨h1, h2, h3⟩)
    have HD := hideH hD
    have t1 : (D.ns : Int) ≤ 3 := by omega
    have t2 : (D.nz : Int) ≤ 5 := by omega
    have t3 : (D.nl : Int) ≤ 4 := by omega
    clear hD hF
    go_enter Tryd.func21, Tryd.ntmps21
    refine wp_seq_k (fun K0 hK0 => ?_)
    have HK0 := hideH hK0
    clear hK0
    go_wp2_with fail
    refine HK0.out _ _ ?_
    clear HK0 K0
    refine wp_seq_k (fun K0 hK0 => ?_)
    have HK0 := hideH hK0
    clear hK0
    go_wp2_with fail
    refine HK0.out _ _ ?_
    clear HK0 K0
    refine wp_seq_k (fun K0 hK0 => ?_)
    have HK0 := hideH hK0
    clear hK0
    go_wp2_with fail
    refine HK0.out _ _ ?_
    clear HK0 K0
    exact cd3 (by omega) HD HB HC HA.out.1 HA.out.2
theorem folR_ok {r : Int × Int} (h : r.2 = 0) : folR r = r.1 := by unfold folR; rw [if_pos h]
theorem folR_no {r : Int × Int} (h : r.2 ≠ 0) : folR r = -1 := by unfold folR; rw [if_neg h]
theorem lead_04 {D : Dt} (h : chkE D = 0) (s : ByteArray) : (leadK D (D.nl + 1) s).2 = 0 ∨ (leadK D (D.nl + 1) s).2 = 4 := by
  obtain ⟨_, hd, _, h2⟩ := chk_parts h
  cases hi : idx D s with
  | none =>
    right
    have : leadK D (D.nl + 1) s = (0, 4) := by simp only [leadK, hi]
    rw [this]
  | some j =>
    left
    have hj := (idx_some hi).1
    by_cases hz : j < D.nz
    · have : leadK D (D.nl + 1) s = ((j : Int), 0) := by simp only [leadK, hi]; rw [if_pos hz]
      rw [this]
    · have e1 : leadK D (D.nl + 1) s = leadK D D.nl (D.ls (j - D.nz)).to := by simp only [leadK, hi]; rw [if_neg hz]
      have hi2 : idx D (D.ls (j - D.nz)).nm = some j := by
        have := idx_at hd (j := j) hj
        rwa [show nms D j = (D.ls (j - D.nz)).nm by unfold nms; rw [if_neg hz]] at this
      have e2 : leadK D (D.nl + 1) (D.ls (j - D.nz)).nm = leadK D D.nl (D.ls (j - D.nz)).to := by simp only [leadK, hi2]; rw [if_neg hz]
      rw [e1, ← e2]
      exact fstE_all h2 (j - D.nz) (by omega)
theorem lead_nn {D : Dt} {s : ByteArray} (h : (leadK D (D.nl + 1) s).2 = 0) : ∃ j : Nat, (leadK D (D.nl + 1) s).1 = j := by
  have := lead_in (D.nl + 1) s h
  exact ⟨(leadK D (D.nl + 1) s).1.toNat, by omega⟩
set_option maxRecDepth 100000 in
set_option maxHeartbeats 4000000 in
theorem ZoneOf_c (D : Dt) (s : ByteArray) (w : World) (hD : DAt w D) (hF : D.fits) (hs : s.size ≤ maxLen) : Calls Tryd.prog 18 #[D.v, .string s] w fun e w' => e = .returned (.tuple #[.int .i64 (zonR D s), .int .i64 (zonE D s)]) ∧ Below w.heap.size w w' := by
  have HD := hideH hD
  have HF := hideH hF
  have HS := hideH hs
  clear hD hF hs
  have hb0 := hideH ((Below.refl _ w).alloc (Nat.le_refl _) (.cells #[.slice D.sa D.ns D.sc, .slice D.za D.nz D.zc, .slice D.la D.nl D.lc] 43))
  have hc0 := hideH (World.alloc_heap_new w (.cells #[.slice D.sa D.ns D.sc, .slice D.za D.nz D.zc, .slice D.la D.nl D.lc] 43))
  by_cases q : chkE D = 0
  · have HCk := hideH (fun v (hv : Below w.heap.size w v) => CheckData_c D v (HD.out.on hv) HF.out)
    rw [q] at HCk
    have h4 := (chk_parts q).1.2.2
    rcases lead_04 q s with h0 | h0
    · obtain ⟨j, hj⟩ := lead_nn h0
      have HZ : Hid (zonR D s = j) := by show _ = _; unfold zonR; rw [if_pos q, if_pos h0, hj]
      have HE : Hid (zonE D s = 0) := by show _ = _; unfold zonE; rw [if_pos q, h0]
      have HFo := hideH (fun v (hv : Below w.heap.size w v) => follow_c D s v (HD.out.on hv) HF.out h4 HS.out)
      rw [folR_ok h0, hj] at HFo
      have hj0 : (0 : Int) ≤ (j : Int) := by omega
      clear q h0 hj h4
      go_enter Tryd.func18, Tryd.ntmps18
      go_wp2_with fail
      refine (HCk.out _ hb0.out).mono ?_
      rintro e w1 ⟨rfl, hw1⟩
      have H1 := hideH (bthen hb0.out hw1)
      have C1 := hideH (heap_on hc0.out hw1)
      clear hw1
      obtain ⟨c0, c1, c2⟩ := cells3 C1.out
      go_wp2_with fail
      refine (HFo.out _ H1.out).mono ?_
      rintro e w2 ⟨rfl, hw2⟩
      have H2 := hideH (bthen H1.out hw2)
      clear hw2 c0 c1 c2
      go_wp2_with fail
      go_ret2
      exact ⟨by rw [HZ.out, HE.out]; rfl, H2.out⟩
    · have HZ : Hid (zonR D s = 0) := by show _ = _; unfold zonR; rw [if_pos q, if_neg (by omega)]
      have HE : Hid (zonE D s = 4) := by show _ = _; unfold zonE; rw [if_pos q, h0]
      have HFo := hideH (fun v (hv : Below w.heap.size w v) => follow_c D s v (HD.out.on hv) HF.out h4 HS.out)
      rw [folR_no (by omega)] at HFo
      clear q h0 h4
      go_enter Tryd.func18, Tryd.ntmps18
      go_wp2_with fail
      refine (HCk.out _ hb0.out).mono ?_
      rintro e w1 ⟨rfl, hw1⟩
      have H1 := hideH (bthen hb0.out hw1)
      have C1 := hideH (heap_on hc0.out hw1)
      clear hw1
      obtain ⟨c0, c1, c2⟩ := cells3 C1.out
      go_wp2_with fail
      refine (HFo.out _ H1.out).mono ?_
      rintro e w2 ⟨rfl, hw2⟩
      have H2 := hideH (bthen H1.out hw2)
      clear hw2 c0 c1 c2
      go_wp2_with fail
      go_ret2
      exact ⟨by rw [HZ.out, HE.out]; rfl, H2.out⟩
  · have HCk := hideH (fun v (hv : Below w.heap.size w v) => CheckData_c D v (HD.out.on hv) HF.out)
    have HZ : Hid (zonR D s = 0) := by show _ = _; unfold zonR; rw [if_neg q]
    have HE : Hid (zonE D s = chkE D) := by show _ = _; unfold zonE; rw [if_neg q]
    have q1 : (chkE D != 0) = true := bne_iff_ne.2 q
    clear q
    generalize chkE D = C at *
    go_enter Tryd.func18, Tryd.ntmps18
    go_wp2_with fail
    refine (HCk.out _ hb0.out).mono ?_
    rintro e w1 ⟨rfl, hw1⟩
    have H1 := hideH (bthen hb0.out hw1)
    clear hw1
    go_wp2_with fail
    go_ret2
    exact ⟨by rw [HZ.out, HE.out]; rfl, H1.out⟩
end Go.Proofs.YtcdokhjmpkcpnabDoor
