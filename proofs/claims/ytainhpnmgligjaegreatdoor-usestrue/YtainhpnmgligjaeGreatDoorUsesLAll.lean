/- Plain facts: a use that has not the time changes nothing then. -/
import Derived.Test.YtainhpnmgligjaeGreatDoorUsesGAll
import Derived.Test.YtainhpnmgligjaeGreatDoorAppRow
namespace Go.Proofs.YtainhpnmgligjaeGreatDoor
open Go Go.RowKit
set_option linter.unusedVariables false

def lesU (us : Nat → Us) (k : Nat) (j : Nat) : Us := if j < k then us j else us (j + 1)
theorem metR_list (us : Nat → Us) (n : Nat) (z : ByteArray) (t : Int) : metR us n z t = match ((List.range n).map us).find? (fun u => hasB u z t) with | some u => u.mt | none => ⟨#[]⟩ := by
  unfold metR
  rw [List.find?_map]
  have e : (fun u => hasB u z t) ∘ us = fun j => hasB (us j) z t := rfl
  rw [e]
  cases (List.range n).find? fun j => hasB (us j) z t <;> rfl
theorem les_row (us : Nat → Us) {n k : Nat} (hk : k < n) : (List.range (n - 1)).map (lesU us k) = ((List.range n).map us).take k ++ ((List.range n).map us).drop (k + 1) := by
  apply List.ext_getElem?
  intro i
  by_cases h : i < k
  · rw [List.getElem?_append_left (by simp; omega), List.getElem?_take_of_lt h]
    simp [lesU, h, show i < n - 1 by omega, show i < n by omega]
  · rw [List.getElem?_append_right (by simp; omega), List.getElem?_drop]

    have e2 : (((List.range n).map us).take k).length = k := by simp; omega
    rw [e2, show k + 1 + (i - k) = i + 1 by omega]
    by_cases h2 : i < n - 1
    · simp [lesU, h, h2, show i + 1 < n by omega]
    · simp [show ¬ i < n - 1 by omega, show ¬ i + 1 < n by omega]
theorem row_cut (us : Nat → Us) {n k : Nat} (hk : k < n) : (List.range n).map us = ((List.range n).map us).take k ++ (us k :: ((List.range n).map us).drop (k + 1)) := by
  have h1 := List.take_append_drop k ((List.range n).map us)
  have h2 : ((List.range n).map us).drop k = us k :: ((List.range n).map us).drop (k + 1) := by
    rw [List.drop_eq_getElem_cons (by simpa using hk)]
    simp
  rw [h2] at h1
  exact h1.symm
theorem les_met {us : Nat → Us} {n k : Nat} {t : Int} (hk : k < n) (h : ¬ ((us k).fr ≤ t ∧ t < (us k).to)) (z : ByteArray) : metR (lesU us k) (n - 1) z t = metR us n z t := by
  rw [metR_list, metR_list, les_row us hk]
  have hno : hasB (us k) z t = false := has_no h
  have e : ((List.range n).map us).find? (fun u => hasB u z t) = (((List.range n).map us).take k ++ ((List.range n).map us).drop (k + 1)).find? (fun u => hasB u z t) := by
    conv => lhs; rw [row_cut us hk]
    rw [List.find?_append, List.find?_append, List.find?_cons_of_neg (by rw [hno]; decide)]
  rw [e]
theorem les_in {us : Nat → Us} {n k j : Nat} (hk : k < n) (hj : j < n - 1) : ∃ i, i < n ∧ lesU us k j = us i := by
  unfold lesU
  split
  · exact ⟨j, by omega, rfl⟩
  · exact ⟨j + 1, by omega, rfl⟩
theorem les_novl {us : Nat → Us} {n k : Nat} (h : novl us n) : novl (lesU us k) (n - 1) := by
  intro i hi j hj
  unfold lesU
  split
  · rw [if_pos (by omega)]; exact h i (by omega) j hj
  · split
    · exact h (i + 1) (by omega) j (by omega)
    · exact h (i + 1) (by omega) (j + 1) (by omega)
theorem uchk_mk {D : Dt} {n : Nat} {us : Nat → Us} (h0 : chkE D = 0) (h1 : n ≤ 10) (h2 : ∀ j, j < n → nameB (us j).mt = true) (h3 : ∀ j, j < n → zoB D (us j).zn = true) (h4 : ∀ j, j < n → ubB (us j) = true) (h5 : novl us n) : uchk D n us = 0 := by
  unfold uchk
  rw [if_pos h0, if_pos h1, if_pos h2, if_pos h3, if_pos h4, if_pos h5]
theorem les_chk {D : Dt} {us : Nat → Us} {n k : Nat} (hk : k < n) (h : uchk D n us = 0) : uchk D (n - 1) (lesU us k) = 0 := by
  obtain ⟨h0, h1, h2, h3, h4, h5⟩ := uchk_ok h
  refine uchk_mk h0 (by omega) ?_ ?_ ?_ (les_novl h5)
  · intro j hj; obtain ⟨i, hi, e⟩ := les_in (us := us) hk hj; rw [e]; exact h2 i hi
  · intro j hj; obtain ⟨i, hi, e⟩ := les_in (us := us) hk hj; rw [e]; exact h3 i hi
  · intro j hj; obtain ⟨i, hi, e⟩ := les_in (us := us) hk hj; rw [e]; exact h4 i hi
theorem les_cat {D : Dt} {us : Nat → Us} {n k : Nat} {t : Int} (hk : k < n) (h : ucat D n us t = 0) : ucat D (n - 1) (lesU us k) t = 0 := by
  obtain ⟨h1, h2, h3⟩ := ucat_ok h
  unfold ucat
  rw [if_pos (les_chk hk h1), if_pos ⟨h2, h3⟩]
theorem umt_ok {D : Dt} {n : Nat} {us : Nat → Us} {s : ByteArray} {t : Int} (h : umtE D n us s t = 0) : ucat D n us t = 0 ∧ zonE D s = 0 := by
  unfold umtE at h
  split at h
  · rename_i h0
    exact ⟨h0, h⟩
  · rename_i h0
    exact absurd h h0
theorem uzn_ok {D : Dt} {n : Nat} {us : Nat → Us} {m : ByteArray} {t : Int} (h : uznE D n us m t = 0) : ucat D n us t = 0 ∧ nameB m = true := by
  unfold uznE at h
  split at h
  · rename_i h0
    split at h
    · rename_i h1
      exact ⟨h0, h1⟩
    · cases h
  · rename_i h0
    exact absurd h h0
/-- without it the same is told -/
theorem les_same {D : Dt} {us : Nat → Us} {n k : Nat} {s m : ByteArray} {t : Int} (hk : k < n) (ht : ¬ ((us k).fr ≤ t ∧ t < (us k).to)) (h1 : umtE D n us s t = 0) (h2 : uznE D n us m t = 0) :
    umtE D (n - 1) (lesU us k) s t = 0 ∧ umtR D (n - 1) (lesU us k) s t = umtR D n us s t ∧ uznE D (n - 1) (lesU us k) m t = 0 ∧ uznL D (n - 1) (lesU us k) m t = uznL D n us m t := by
  obtain ⟨a1, a2⟩ := umt_ok h1
  obtain ⟨b1, b2⟩ := uzn_ok h2
  have c1 := les_cat hk a1
  have e1 : umtE D (n - 1) (lesU us k) s t = 0 := by unfold umtE; rw [if_pos c1]; exact a2
  have e2 : uznE D (n - 1) (lesU us k) m t = 0 := by unfold uznE; rw [if_pos c1, if_pos b2]
  refine ⟨e1, ?_, e2, ?_⟩
  · unfold umtR; rw [if_pos e1, if_pos h1, les_met hk ht]
  · unfold uznL
    rw [if_pos e2, if_pos h2]
    have e3 : zlst D (lesU us k) (n - 1) m t D.nz = zlst D us n m t D.nz := by
      unfold zlst
      have : zsel D (lesU us k) (n - 1) m t = zsel D us n m t := by
        funext j
        unfold zsel
        rw [les_met hk ht]
      rw [this]
    rw [e3]
end Go.Proofs.YtainhpnmgligjaeGreatDoor

/- A row of uses without one of them, made by two appends. -/
namespace Go.Proofs.YtainhpnmgligjaeGreatDoor
open Go Go.RowKit Go.Maps
set_option linter.unusedVariables false

theorem info_us : (Tryz.prog.info? 43).map (fun i => (i.zero, i.size, i.bytes)) = some (some (.agg #[.string ⟨#[]⟩, .int .i64 0, .int .i64 0, .string ⟨#[]⟩]), 4, 48) := by kernel_rfl
/-- the cells of a row of uses -/
def usc (us : Nat → Us) (j : Nat) : Value := if j % 4 = 0 then .string (us (j / 4)).zn else if j % 4 = 1 then .int .i64 (us (j / 4)).fr else if j % 4 = 2 then .int .i64 (us (j / 4)).to else .string (us (j / 4)).mt
def usr (us : Nat → Us) (n : Nat) : List Value := (List.range (n * 4)).map (usc us)
theorem usr_len (us : Nat → Us) (n : Nat) : (usr us n).length = n * 4 := by simp [usr]
theorem usr_one (us : Nat → Us) (n : Nat) : ∀ u ∈ usr us n, u.oneCell' = true := by
  intro u hu
  obtain ⟨j, _, rfl⟩ := List.mem_map.1 hu
  unfold usc
  split
  · rfl
  · split
    · rfl
    · split <;> rfl
theorem usr_at {us : Nat → Us} {n j : Nat} {u : Value} (h : (usr us n)[j]? = some u) : j < n * 4 ∧ u = usc us j := by
  unfold usr at h
  rw [List.getElem?_map] at h
  by_cases hj : j < n * 4
  · rw [List.getElem?_range hj] at h
    exact ⟨hj, by simpa using h.symm⟩
  · rw [List.getElem?_eq_none (by simpa using hj)] at h
    cases h
theorem us_news {w : World} {b off n : Nat} {us : Nat → Us} (h : ∀ j, j < n → w.cell? ⟨b, off + j * 4, none⟩ = some (.string (us j).zn) ∧ w.cell? ⟨b, off + j * 4 + 1, none⟩ = some (.int .i64 (us j).fr) ∧ w.cell? ⟨b, off + j * 4 + 2, none⟩ = some (.int .i64 (us j).to) ∧ w.cell? ⟨b, off + j * 4 + 3, none⟩ = some (.string (us j).mt)) :
    ∀ j u, (usr us n)[j]? = some u → w.cell? ((⟨b, off, none⟩ : Addr).add j) = some u := by
  intro j u hj
  obtain ⟨h1, rfl⟩ := usr_at hj
  obtain ⟨c0, c1, c2, c3⟩ := h (j / 4) (by omega)
  have e : (⟨b, off, none⟩ : Addr).add j = ⟨b, off + j, none⟩ := by unfold Addr.add; split <;> simp_all
  rw [e]
  unfold usc
  have h4 : j % 4 = 0 ∨ j % 4 = 1 ∨ j % 4 = 2 ∨ j % 4 = 3 := by omega
  rcases h4 with h4 | h4 | h4 | h4
  · rw [if_pos h4, ← c0]; congr 2; omega
  · rw [if_neg (by omega), if_pos h4, ← c1]; congr 2; omega
  · rw [if_neg (by omega), if_neg (by omega), if_pos h4, ← c2]; congr 2; omega
  · rw [if_neg (by omega), if_neg (by omega), if_neg (by omega), ← c3]; congr 2; omega
theorem usc_shift (us : Nat → Us) (k j : Nat) : usc (fun i => us (k + i)) j = usc us (k * 4 + j) := by
  unfold usc
  rw [show (k * 4 + j) % 4 = j % 4 by omega, show (k * 4 + j) / 4 = k + j / 4 by omega]
theorem usr_join (us : Nat → Us) {n k : Nat} (hk : k < n) : usr us k ++ usr (fun i => us (k + 1 + i)) (n - (k + 1)) = usr (lesU us k) (n - 1) := by
  apply List.ext_getElem?
  intro j
  by_cases h : j < k * 4
  · rw [List.getElem?_append_left (by rw [usr_len]; exact h)]
    unfold usr
    rw [List.getElem?_map, List.getElem?_map, List.getElem?_range h, List.getElem?_range (by omega)]
    simp only [Option.map_some, Option.some.injEq]
    have : lesU us k (j / 4) = us (j / 4) := by unfold lesU; rw [if_pos (by omega)]
    unfold usc
    rw [this]
  · rw [List.getElem?_append_right (by rw [usr_len]; omega), usr_len]
    unfold usr
    rw [List.getElem?_map, List.getElem?_map]
    by_cases h2 : j < (n - 1) * 4
    · rw [List.getElem?_range (by omega), List.getElem?_range h2]
      simp only [Option.map_some, Option.some.injEq]
      have : lesU us k (j / 4) = us (j / 4 + 1) := by unfold lesU; rw [if_neg (by omega)]
      unfold usc
      rw [this, show (j - k * 4) % 4 = j % 4 by omega]
      have e2 : (fun i => us (k + 1 + i)) ((j - k * 4) / 4) = us (j / 4 + 1) := by
        show us (k + 1 + (j - k * 4) / 4) = _
        rw [show k + 1 + (j - k * 4) / 4 = j / 4 + 1 by omega]
      rw [e2]
    · rw [List.getElem?_eq_none (by simp; omega), List.getElem?_eq_none (by simp; omega)]; rfl
theorem usr_uat {w : World} {base n : Nat} {v : Value} {us : Nat → Us} (h : w.ownsRow base 43 4 v n (usr us n)) : ∃ a c, v = .slice a n c ∧ n ≤ c ∧ UAt w a n us := by
  rcases h.2 with ⟨rfl, rfl⟩ | ⟨g, cap, cur, rfl, hb, hg, hn, hm, hs, ht⟩
  · exact ⟨none, 0, rfl, Nat.le_refl _, .inl rfl⟩
  · refine ⟨some ⟨g, 0, none⟩, cap, rfl, hn, .inr ⟨g, 0, rfl, fun j hj => ?_⟩⟩
    have key : ∀ r, r < 4 → w.cell? ⟨g, 0 + j * 4 + r, none⟩ = some (usc us (j * 4 + r)) := fun r hr => by
      rw [show 0 + j * 4 + r = j * 4 + r by omega, h.cellAt (j * 4 + r) (by omega)]
      unfold usr
      rw [List.getElem?_map, List.getElem?_range (by omega)]; rfl
    have k0 := key 0 (by omega)
    have k1 := key 1 (by omega)
    have k2 := key 2 (by omega)
    have k3 := key 3 (by omega)
    unfold usc at k0 k1 k2 k3
    rw [if_pos (by omega), show (j * 4 + 0) / 4 = j by omega] at k0
    rw [if_neg (by omega), if_pos (by omega), show (j * 4 + 1) / 4 = j by omega] at k1
    rw [if_neg (by omega), if_neg (by omega), if_pos (by omega), show (j * 4 + 2) / 4 = j by omega] at k2
    rw [if_neg (by omega), if_neg (by omega), if_neg (by omega), show (j * 4 + 3) / 4 = j by omega] at k3
    exact ⟨k0, k1, k2, k3⟩
theorem gone_app1 (us : Nat → Us) (b off n k cc : Nat) (w0 U : World) {ops : Array Oper} {o : Oper} {a : Act} {K : Act → World → Prop} {Q : Exit → Act → World → Prop} {E : Prop} (hgd : o.guard = none) (s x : Operand)
    (ho : o.op = .call { callee := .builtin .append, args := #[s, x], argTypes := #[27, 27] })
    (g : Nat) (hs : a.eval s = .slice (some ⟨g, 0, none⟩) 0 0) (hx : a.eval x = .slice (some ⟨b, off, none⟩) k cc) (hU : Below w0.heap.size w0 U) (hg : U.heap[g]? = some (.cells #[] 43)) (hb : w0.heap.size ≤ g)
    (hP : UAt w0 (some ⟨b, off, none⟩) n us) (hk : k < n) (hn : n ≤ 10)
    (h : ∀ v1 w1, Hid (w1.ownsRow w0.heap.size 43 4 v1 k (usr us k)) → Hid (Below w0.heap.size w0 w1) → K (a.put o.dst v1) w1) :
    if Region.wanted o (yielded ops a.tmps) = true then Oper.wp Tryz.prog o a U K Q else E := by
  obtain ⟨i0, hi, hz0, hz1, hz2⟩ := info_parts info_us
  have hown := own_empty (base := w0.heap.size) (size := 4) hg hb
  have hcs : ∀ j, j < k → U.cell? ⟨b, off + j * 4, none⟩ = some (.string (us j).zn) ∧ U.cell? ⟨b, off + j * 4 + 1, none⟩ = some (.int .i64 (us j).fr) ∧ U.cell? ⟨b, off + j * 4 + 2, none⟩ = some (.int .i64 (us j).to) ∧ U.cell? ⟨b, off + j * 4 + 3, none⟩ = some (.string (us j).mt) := by
    rcases hP.on hU with h0 | ⟨b', off', e, hcs⟩
    · omega
    · obtain ⟨rfl, rfl⟩ : b = b' ∧ off = off' := by simpa using e
      exact fun j hj => hcs j (by omega)
  refine step_append_row U hgd s x 27 ho w0.heap.size 43 i0 _ 4 48 Tryz.underlying27 hi hz0 hz1 hz2 rfl (by decide) _ 0 [] hs hown (some ⟨b, off, none⟩) k cc (usr us k) hx (usr_len _ _) (.inr ⟨_, rfl, us_news hcs⟩) (usr_one _ _) (by unfold maxLen; omega) (by omega) hU.size ?_
  intro v1 w1 h1 h2 _
  refine h v1 w1 ?_ ?_
  · have := h1
    rw [Nat.zero_add, List.nil_append] at this
    exact this
  · exact hU.grown h2 hU.size (fun j hj => by
      obtain rfl : g = j := by simpa [Value.ownBlock] using hj
      exact hb)
theorem gone_app2 (us : Nat → Us) (b off n k M cc : Nat) (ao : Option Addr) (w0 U : World) {ops : Array Oper} {o : Oper} {a : Act} {K : Act → World → Prop} {Q : Exit → Act → World → Prop} {E : Prop} (hgd : o.guard = none) (s x : Operand)
    (ho : o.op = .call { callee := .builtin .append, args := #[s, x], argTypes := #[27, 27] })
    (v1 : Value) (hs : a.eval s = v1) (hx : a.eval x = .slice ao M cc) (hM : M = n - (k + 1)) (hO : M = 0 ∨ ao = some ⟨b, off + (k + 1) * 4, none⟩) (hU : Below w0.heap.size w0 U) (hown : U.ownsRow w0.heap.size 43 4 v1 k (usr us k))
    (hP : UAt w0 (some ⟨b, off, none⟩) n us) (hk : k < n) (hn : n ≤ 10)
    (h : ∀ a' c' w2, n - 1 ≤ c' → Hid (UAt w2 a' (n - 1) (lesU us k)) → Hid (Below w0.heap.size w0 w2) → K (a.put o.dst (.slice a' (n - 1) c')) w2) :
    if Region.wanted o (yielded ops a.tmps) = true then Oper.wp Tryz.prog o a U K Q else E := by
  subst hM
  obtain ⟨i0, hi, hz0, hz1, hz2⟩ := info_parts info_us
  have hcs : ∀ j, j < n - (k + 1) → U.cell? ⟨b, off + (k + 1) * 4 + j * 4, none⟩ = some (.string (us (k + 1 + j)).zn) ∧ U.cell? ⟨b, off + (k + 1) * 4 + j * 4 + 1, none⟩ = some (.int .i64 (us (k + 1 + j)).fr) ∧ U.cell? ⟨b, off + (k + 1) * 4 + j * 4 + 2, none⟩ = some (.int .i64 (us (k + 1 + j)).to) ∧ U.cell? ⟨b, off + (k + 1) * 4 + j * 4 + 3, none⟩ = some (.string (us (k + 1 + j)).mt) := by
    rcases hP.on hU with h0 | ⟨b', off', e, hcs⟩
    · omega
    · obtain ⟨rfl, rfl⟩ : b = b' ∧ off = off' := by simpa using e
      intro j hj
      have := hcs (k + 1 + j) (by omega)
      rw [show off + (k + 1 + j) * 4 = off + (k + 1) * 4 + j * 4 by omega] at this
      exact this
  refine step_append_row U hgd s x 27 ho w0.heap.size 43 i0 _ 4 48 Tryz.underlying27 hi hz0 hz1 hz2 rfl (by decide) _ k (usr us k) hs hown ao (n - (k + 1)) cc (usr (fun i => us (k + 1 + i)) (n - (k + 1))) hx (usr_len _ _) (hO.elim .inl (fun e => .inr ⟨_, e, us_news hcs⟩)) (usr_one _ _) (by unfold maxLen; omega) (by omega) hU.size ?_
  intro v2 w2 h1 h2 _
  have h3 := h1
  rw [usr_join us hk, show k + (n - (k + 1)) = n - 1 by omega] at h3
  obtain ⟨a', c', rfl, hc', hu⟩ := usr_uat h3
  refine h a' c' w2 hc' hu ?_
  exact hU.grown h2 hU.size (fun j hj => by have := (hown.lt j hj).1; omega)
end Go.Proofs.YtainhpnmgligjaeGreatDoor
