/- The document's own metaOf. -/
import Derived.Test.YtmpiijipebngcaaGreatDoorUsesEAll
import Derived.Deep.QuietTactic
import Derived.BigQuiet
import Derived.Test.YtmpiijipebngcaaGreatDoorUsesR
import Derived.Test.YtmpiijipebngcaaGreatDoorUsesGAll
import Derived.Laws.Cover1
import Derived.Laws.OwnMore
namespace Go.Proofs.YtmpiijipebngcaaGreatDoor
open Go Go.RowKit Go.Maps
set_option linter.unusedVariables false

set_option maxHeartbeats 4000000 in
theorem RmetaOf_c (a : Option Addr) (n c : Nat) (us : Nat → Us) (z : ByteArray) (t : Int) (w : World) (hn : n ≤ 10) (hP : UAt w a n us) : Calls Tryz.prog 72 #[.slice a n c, .string z, .int .i64 t] w fun e w' => e = .returned (.string (metR us n z t)) ∧ Below w.heap.size w w' := by
  have HP := hideH hP
  clear hP
  generalize hV : metR us n z t = V
  have HV := hideH hV
  clear hV
  go_enter Tryz.func72, Tryz.ntmps72
  go_wp2_with fail
  go_loopw [7] (fun x7 wr => ∃ j : Nat, j ≤ n ∧ x7 = .int .i64 j ∧ Hid (∀ i, i < j → hasB (us i) z t = false) ∧ Hid (Below w.heap.size w wr)) (fun x7 _ => n - (intOf x7).toNat)
  case atStart => exact ⟨0, Nat.zero_le _, rfl, fun i hi => by omega, Below.refl _ _⟩
  case round =>
    obtain ⟨j, hj, rfl, HA, HW⟩ := hrel
    by_cases hlt : j < n
    · rcases HP.out.on HW.out with h0 | ⟨b, off, hsa, hcs⟩
      · omega
      obtain ⟨c0, c1, c2, c3⟩ := hcs j hlt
      clear hcs
      have hk0 : decide ((j : Int) < 0) = false := by simp
      have hkd : decide (n ≤ j) = false := by simp; omega
      have hki : (j : Int) < (n : Int) := by omega
      have HX0 : Hid (hasB (us j) z t = true → V = (us j).mt) := fun h => by
        rw [← HV.out]; unfold metR; rw [ufind hlt h HA.out]
      have HA0 : Hid (hasB (us j) z t = false → ∀ i, i < j + 1 → hasB (us i) z t = false) := fun h i hi => by
        rcases Nat.lt_or_ge i j with h3 | h3
        · exact HA.out i h3
        · obtain rfl : i = j := by omega
          exact h
      cases hq : ((us j).zn.toList == z.toList)
      · have HA2 := hideH (HA0.out (has_eq hq))
        clear HX0 HA0
        go_wp2_with fail
        try (go_quiet (fail); go_wp2_with fail)
        try simp only [← hsa]
        go_roundw
        case rel => exact ⟨j + 1, by omega, by go_num, HA2, by first | exact HW | exact below_drewN HW.out _⟩
        case measure => simp [intOf]; omega
      · by_cases h1 : (us j).fr ≤ t
        · by_cases h2 : t < (us j).to
          · have HX := hideH (HX0.out (has_yes hq ⟨h1, h2⟩))
            clear HX0 HA0
            go_wp2_with fail
            try (go_quiet (fail); go_wp2_with fail)
            go_ret
            exact ⟨by rw [HX.out] <;> rfl, by first | exact HW.out | exact below_drewN HW.out _⟩
          · have HA2 := hideH (HA0.out (has_no (fun h => h2 h.2)))
            clear HX0 HA0
            go_wp2_with fail
            try (go_quiet (fail); go_wp2_with fail)
            try simp only [← hsa]
            go_roundw
            case rel => exact ⟨j + 1, by omega, by go_num, HA2, by first | exact HW | exact below_drewN HW.out _⟩
            case measure => simp [intOf]; omega
        · have HA2 := hideH (HA0.out (has_no (fun h => h1 h.1)))
          clear HX0 HA0
          go_wp2_with fail
          try (go_quiet (fail); go_wp2_with fail)
          try simp only [← hsa]
          go_roundw
          case rel => exact ⟨j + 1, by omega, by go_num, HA2, by first | exact HW | exact below_drewN HW.out _⟩
          case measure => simp [intOf]; omega
    · have HX : Hid (V = ⟨#[]⟩) := by
        show V = _
        rw [← HV.out]
        unfold metR
        rw [List.find?_eq_none.2 (fun x hx => by rw [HA.out x (by have := List.mem_range.1 hx; omega)]; decide)]
      go_wp2_with fail
      go_ret
      exact ⟨by rw [HX.out] <;> rfl, HW.out⟩
end Go.Proofs.YtmpiijipebngcaaGreatDoor

/- The document's own UsesError and MetaOf. -/
namespace Go.Proofs.YtmpiijipebngcaaGreatDoor
open Go Go.RowKit Go.Maps
set_option linter.unusedVariables false
theorem fol_zon {D : Dt} (hc : chkE D = 0) (s : ByteArray) : (zonE D s = 0 ∧ ∃ k : Nat, folR (leadK D (D.nl + 1) s) = k ∧ zonR D s = k ∧ k < D.nz) ∨ (zonE D s = 4 ∧ folR (leadK D (D.nl + 1) s) = -1) := by
  have e : zonE D s = (leadK D (D.nl + 1) s).2 := by unfold zonE; rw [if_pos hc]
  rcases lead_04 hc s with h | h
  · left
    refine ⟨e.trans h, ?_⟩
    obtain ⟨k, hk, hkz⟩ := zonE_in (e.trans h)
    refine ⟨k, ?_, hk, hkz⟩
    rw [folR_ok h, ← hk]
    unfold zonR
    rw [if_pos hc, if_pos h]
  · right
    exact ⟨e.trans h, folR_no (by omega)⟩
end Go.Proofs.YtmpiijipebngcaaGreatDoor

/- The document's own sorted. -/
namespace Go.Proofs.YtmpiijipebngcaaGreatDoor
open Go Go.RowKit Go.Maps
set_option linter.unusedVariables false

abbrev Srt (l : List (List UInt8)) : Prop := l.Pairwise fun a b => a ≤ b
theorem srt_srt (l : List (List UInt8)) : Srt (srt l) := by
  have h1 : (srt l).Pairwise fun a b => decide (a ≤ b) = true := List.pairwise_mergeSort (fun a b c h1 h2 => by
    simp only [decide_eq_true_eq] at h1 h2 ⊢
    exact List.le_trans h1 h2) (fun a b => by
    simp only [Bool.or_eq_true, decide_eq_true_eq]
    exact List.le_total a b) l
  exact h1.imp (fun h => by simpa using h)
theorem srt_uniq : ∀ {a b : List (List UInt8)}, a.Perm b → Srt a → Srt b → a = b
  | [], b, hp, _, _ => (List.Perm.nil_eq hp)
  | x :: a, [], hp, _, _ => absurd hp.length_eq (by simp)
  | x :: a, y :: b, hp, h1, h2 => by
    obtain ⟨p1, p2⟩ := List.pairwise_cons.1 h1
    obtain ⟨q1, q2⟩ := List.pairwise_cons.1 h2
    have hx : x ∈ y :: b := hp.subset (by simp)
    have hy : y ∈ x :: a := hp.symm.subset (by simp)
    have e : x = y := by
      rcases List.mem_cons.1 hx with h | h
      · exact h
      · rcases List.mem_cons.1 hy with h' | h'
        · exact h'.symm
        · exact List.le_antisymm (p1 y h') (q1 x h)
    subst e
    rw [srt_uniq hp.cons_inv p2 q2]
theorem less_triU : ∀ a b : List UInt8, (Op.bytesLess a b || a == b) = !Op.bytesLess b a
  | [], [] => by simp [Op.bytesLess]
  | [], _ :: _ => by simp [Op.bytesLess]
  | _ :: _, [] => by simp [Op.bytesLess]
  | x :: a, y :: b => by
    have ih := less_triU a b
    by_cases h1 : x = y
    · subst h1
      have : ¬ (x < x) := UInt8.lt_irrefl x
      simp only [Op.bytesLess, this, decide_false, beq_self_eq_true, Bool.true_and, Bool.false_or]
      rw [← ih]
      simp
    · have h2 : (x == y) = false := beq_eq_false_iff_ne.2 h1
      have h3 : (y == x) = false := beq_eq_false_iff_ne.2 (fun e => h1 e.symm)
      rcases UInt8.lt_or_lt_of_ne h1 with h | h
      · have h4 : ¬ (y < x) := fun h5 => UInt8.lt_irrefl _ (UInt8.lt_trans h h5)
        simp [Op.bytesLess, h, h2, h3, h4]
      · have h4 : ¬ (x < y) := fun h5 => UInt8.lt_irrefl _ (UInt8.lt_trans h h5)
        simp [Op.bytesLess, h, h2, h3, h4]
theorem gtr_less (a b : List UInt8) : (!Op.bytesLess a b && !a == b) = Op.bytesLess b a := by
  rw [← Bool.not_or, less_triU, Bool.not_not]
theorem lt_lessU : ∀ a b : List UInt8, Op.bytesLess a b = true ↔ a < b
  | [], [] => by simp [Op.bytesLess]
  | [], _ :: _ => by simp [Op.bytesLess]
  | _ :: _, [] => by simp [Op.bytesLess]
  | x :: a, y :: b => by
    rw [List.cons_lt_cons_iff, ← lt_lessU a b]
    simp [Op.bytesLess]
theorem le_lessU {a b : List UInt8} (h : Op.bytesLess b a = false) : a ≤ b := by
  rcases List.le_total a b with h1 | h1
  · exact h1
  · rcases List.le_iff_lt_or_eq.1 h1 with h2 | h2
    · rw [(lt_lessU b a).2 h2] at h; cases h
    · rw [h2]; exact List.le_refl _
/-- one has come to its place -/
theorem ins_done {A B S : List (List UInt8)} {v : List UInt8} {l : List (List UInt8)} (hs : Srt (A ++ B)) (hb : ∀ b ∈ B, v < b) (ha : ∀ u ∈ A, u ≤ v) (hp : (A ++ B).Perm (srt l)) : A ++ v :: B = srt (l ++ [v]) := by
  refine srt_uniq ?_ ?_ (srt_srt _)
  · have h1 : (A ++ v :: B).Perm (v :: (A ++ B)) := List.perm_middle
    have h2 : (srt (l ++ [v])).Perm (l ++ [v]) := List.mergeSort_perm _ _
    have h3 : (srt l).Perm l := List.mergeSort_perm _ _
    refine h1.trans (((hp.trans h3).cons v).trans ?_)
    exact (List.perm_append_singleton v l).symm.trans h2.symm
  · unfold Srt at hs ⊢
    rw [List.pairwise_append] at hs ⊢
    obtain ⟨s1, s2, s3⟩ := hs
    refine ⟨s1, List.pairwise_cons.2 ⟨fun b hb' => List.le_of_lt (hb b hb'), s2⟩, ?_⟩
    intro u hu x hx
    rcases List.mem_cons.1 hx with rfl | hx
    · exact ha u hu
    · exact s3 u hu x hx
theorem row_swap {A B : List (List UInt8)} {u v : List UInt8} : (((A ++ [u] ++ v :: B).map encStr).set A.length (encStr v)).set (A.length + 1) (encStr u) = (A ++ v :: u :: B).map encStr := by
  rw [List.append_assoc, List.map_append, List.map_append]
  have hl : (A.map encStr).length = A.length := by simp
  rw [← hl, List.set_append_right _ _ (Nat.le_refl _), Nat.sub_self, List.set_append_right _ _ (by omega), show (A.map encStr).length + 1 - (A.map encStr).length = 1 by omega, List.map_append (l₁ := A)]
  rfl
theorem swap_own {w : World} {base n g c p : Nat} {A B : List (List UInt8)} {u v : List UInt8} (hp : p = A.length) (h : w.ownsRow base 9 1 (.slice (some ⟨g, 0, none⟩) n c) n ((A ++ [u] ++ v :: B).map encStr)) : ((w.setCell ⟨g, p, none⟩ (.string ⟨v.toArray⟩)).setCell ⟨g, p + 1, none⟩ (.string ⟨u.toArray⟩)).ownsRow base 9 1 (.slice (some ⟨g, 0, none⟩) n c) n ((A ++ v :: u :: B).map encStr) := by
  have h1 := ((h.stored p (.string ⟨v.toArray⟩)).1.stored (p + 1) (.string ⟨u.toArray⟩)).1
  have h2 := row_swap (A := A) (B := B) (u := u) (v := v)
  rw [← hp] at h2
  rw [show (((A ++ [u] ++ v :: B).map encStr).set p (.string ⟨v.toArray⟩)).set (p + 1) (.string ⟨u.toArray⟩) = (A ++ v :: u :: B).map encStr from h2] at h1
  exact h1
theorem wrap_nuS {n : Int} (h0 : 0 ≤ n) (h1 : n < 9223372036854775808) : IntKind.i64.wrap n = n := by
  have h64 : IntKind.i64.bits = 64 := rfl
  have hsg : IntKind.i64.signed = true := rfl
  unfold IntKind.wrap
  rw [h64, hsg]
  simp only [Bool.true_and]
  rw [Int.emod_eq_of_lt h0 (by omega)]
  simp
  omega
theorem take_one {l : List (List UInt8)} {k : Nat} (h : k < l.length) : l.take (k + 1) = l.take k ++ [l[k]?.getD []] := by
  rw [List.take_add_one, List.getElem?_eq_getElem h]
  rfl
def sorP (l : List (List UInt8)) (w : World) (e : Ending) (w' : World) : Prop := ∃ a c, e = .returned (.slice a l.length c) ∧ l.length ≤ c ∧ TX w' a l ∧ Below w.heap.size w w'
set_option maxRecDepth 100000 in
set_option maxHeartbeats 8000000 in
theorem sorted_c (a : Option Addr) (c : Nat) (l : List (List UInt8)) (w : World) (h : TX w a l) (hl : l.length ≤ 1000) : Calls Tryz.prog 61 #[.slice a l.length c] w fun e w' => sorP (srt l) w e w' := by
  obtain ⟨i0, hi, hz0, hz1, hz2⟩ := info_parts info_str
  have HT := hideH h
  obtain ⟨N, hN⟩ : ∃ N, N = l.length := ⟨_, rfl⟩
  rw [← hN]
  have HN := hideH hN
  have hN1 : N ≤ 1000 := by omega
  have HP : Hid (P1 w a N (fun j => encStr (l[j]?.getD []))) := by rw [hN]; exact h
  clear h hN HT hl
  go_enter Tryz.func61, Tryz.ntmps61
  go_wp2_with fail
  go_loopw [3, 4] (fun x3 x4 v => ∃ k : Nat, k ≤ N ∧ x4 = .int .i64 k ∧ Hid (v.ownsRow w.heap.size 9 1 x3 k ((srt (l.take k)).map encStr)) ∧ Hid (Below w.heap.size w v)) (fun _ x4 _ => N - (intOf x4).toNat)
  case atStart => exact ⟨0, Nat.zero_le _, rfl, by show World.ownsRow _ _ _ _ _ _ _; rw [show srt (l.take 0) = [] by simp [srt]]; exact World.ownsRow_nil _ _ _ _, Below.refl _ _⟩
  case round =>
    obtain ⟨k, hk, rfl, Q, HW⟩ := hrel
    by_cases hlt : k < N
    · rcases HP.out.on HW.out with h0 | ⟨b, off, hsa, hcs⟩
      · omega
      have c0 : wr.cell? ⟨b, off + k, none⟩ = some (.string ⟨(l[k]?.getD []).toArray⟩) := hcs k hlt
      clear hcs
      have hk0 : decide ((k : Int) < 0) = false := by simp
      have hkd : decide (N ≤ k) = false := by simp; omega
      have hki : (k : Int) < (N : Int) := by omega
      have HTK := hideH (take_one (l := l) (k := k) (by have := HN.out; omega))
      have hS : Hid ((srt (l.take k)).length = k) := by show _ = _; rw [show (srt (l.take k)).length = (l.take k).length from List.length_mergeSort _, List.length_take]; have := HN.out; omega
      obtain ⟨V, hV⟩ : ∃ V, V = l[k]?.getD [] := ⟨_, rfl⟩
      rw [← hV] at c0 HTK
      clear hV
      go_wp2_with (at_builtin; refine wpList_append_lies _ rfl _ _ 56 rfl w.heap.size 9 i0 (.string ⟨#[]⟩) 1 16 Tryz.underlying56 hi hz0 hz1 hz2 rfl (by decide) _ _ _ rfl (Q.out.alloc _) ⟨wr.heap.size, 0, none⟩ 1 1 [.string ⟨V.toArray⟩] rfl rfl (cell_one_new _ _ _) (by simp [Value.oneCell']) (by decide) (by unfold maxLen; omega) (by omega) (by have := HW.out.size; simp; omega) _ rfl ?_; intro g4 q4 w1 hown hgrow hat hl1; refine Hid.out ?_)
      refine hideH ?_
      have H1 := hideH (below_grown0 (HW.out.alloc (by have := HW.out.size; omega) _) (Q.out.alloc _) hgrow)
      have O1 : Hid (w1.ownsRow w.heap.size 9 1 (.slice (some ⟨g4, 0, none⟩) (k + 1) q4) (k + 1) ((srt (l.take k) ++ V :: []).map encStr)) := by
        show World.ownsRow _ _ _ _ _ _ _
        rw [List.map_append]
        exact hown
      clear hown hgrow hat c0
      have hg4 : w.heap.size ≤ g4 := (O1.out.lt g4 rfl).1
      have hwk : IntKind.i64.wrap (((k + 1 : Nat) : Int) - 1) = (k : Int) := by rw [wrap_nuS (by omega) (by omega)]; omega
      have hwk2 : ((k : Int) + 1) - 1 = (k : Int) := by omega
      obtain ⟨wo, hwo⟩ : ∃ wo, wo = wr := ⟨_, rfl⟩
      subst hwo
      go_wp2_with fail
      go_loopw [5] (fun x5 v => ∃ A V' B, V' = V ∧ A.length + B.length = k ∧ x5 = .int .i64 (A.length : Nat) ∧ Hid (v.ownsRow w.heap.size 9 1 (.slice (some ⟨g4, 0, none⟩) (k + 1) q4) (k + 1) ((A ++ V :: B).map encStr)) ∧ Hid (Srt (A ++ B)) ∧ Hid (∀ b ∈ B, V < b) ∧ Hid ((A ++ B).Perm (srt (l.take k))) ∧ Hid (Below w.heap.size w v)) (fun x5 _ => (intOf x5).toNat)
      case atStart => exact ⟨srt (l.take k), V, [], rfl, by have := hS.out; simp only [List.length_nil]; omega, by have := hS.out; rw [this], O1, by show Srt _; rw [List.append_nil]; exact srt_srt _, fun b hb => by simp at hb, by show List.Perm _ _; rw [List.append_nil], H1⟩
      case round =>
        obtain ⟨A, V', B, rfl, hAB, rfl, HO, HS, HB, HPm, HW2⟩ := hrel
        rcases List.eq_nil_or_concat A with rfl | ⟨A', u, hA⟩
        · have HF : Hid (wr.ownsRow w.heap.size 9 1 (.slice (some ⟨g4, 0, none⟩) (k + 1) q4) (k + 1) ((srt (l.take (k + 1))).map encStr)) := by
            show World.ownsRow _ _ _ _ _ _ _
            rw [HTK.out, ← ins_done (S := []) HS.out HB.out (fun u hu => by simp at hu) HPm.out]
            exact HO.out
          go_wp2_with fail
          go_quiet (fail)
          go_wp2_with fail
          try simp only [← hsa]
          go_roundw
          case rel => exact ⟨k + 1, by omega, by go_num, HF, below_drewN HW2.out _⟩
          case measure => simp [intOf]; omega
        · rw [List.concat_eq_append] at hA
          subst hA
          obtain ⟨p, hp⟩ : ∃ p, p = A'.length := ⟨_, rfl⟩
          have hlen : (A' ++ [u]).length = p + 1 := by simp [hp]
          have hpk : p + 1 ≤ k := by omega
          rw [hlen]
          have cu : wr.cell? ⟨g4, p, none⟩ = some (.string ⟨u.toArray⟩) := by
            rw [HO.out.cellAt p (by omega), List.getElem?_map, hp]
            simp
          have cv : wr.cell? ⟨g4, p + 1, none⟩ = some (.string ⟨V'.toArray⟩) := by
            rw [HO.out.cellAt (p + 1) (by omega), List.getElem?_map, List.getElem?_append_right (by rw [hlen]; exact Nat.le_refl _), hlen]
            simp
          have hgn : 0 < p + 1 := by omega
          have hwp : IntKind.i64.wrap (((p + 1 : Nat) : Int) - 1) = (p : Int) := by rw [wrap_nuS (by omega) (by omega)]; omega
          have hwp2 : IntKind.i64.wrap (((p : Int) + 1) - 1) = (p : Int) := by rw [wrap_nuS (by omega) (by omega)]; omega
          have hp0 : decide ((p : Int) < 0) = false := by simp
          have hpd : decide (k + 1 ≤ p) = false := by simp; omega
          have hpi : (p : Int) < ((k + 1 : Nat) : Int) := by omega
          have hpi2 : (p : Int) < (k : Int) + 1 := by omega
          have hqi2 : (p : Int) + 1 < (k : Int) + 1 := by omega
          have hqd : decide (k + 1 ≤ p + 1) = false := by simp; omega
          have hwp3 : IntKind.i64.wrap (p : Int) = (p : Int) := wrap_nuS (by omega) (by omega)
          have HPp := hideH hp
          have HLn := hideH hlen
          have HAB := hideH hAB
          clear hp hlen hAB
          cases hq : Op.bytesLess V' u
          · have HF : Hid (wr.ownsRow w.heap.size 9 1 (.slice (some ⟨g4, 0, none⟩) (k + 1) q4) (k + 1) ((srt (l.take (k + 1))).map encStr)) := by
              show World.ownsRow _ _ _ _ _ _ _
              rw [HTK.out, ← ins_done (S := []) HS.out HB.out (fun x hx => by
                have hu := le_lessU hq
                rcases List.mem_append.1 hx with h | h
                · have h1 := HS.out
                  unfold Srt at h1
                  rw [List.append_assoc, List.pairwise_append] at h1
                  exact List.le_trans (h1.2.2 x h u (by simp)) hu
                · obtain rfl : x = u := by simpa using h
                  exact hu) HPm.out]
              exact HO.out
            have hq2 := (gtr_less u V').trans hq
            go_wp2_with fail
            go_quiet (fail)
            go_wp2_with fail
            try simp only [← hsa]
            go_roundw
            case rel => exact ⟨k + 1, by omega, by go_num, HF, below_drewN HW2.out _⟩
            case measure => simp [intOf]; omega
          · have hq2 := (gtr_less u V').trans hq
            have hf1 : wr.frozen? ⟨g4, p, none⟩ = false := HO.out.frozenAt p
            have hf2 : wr.frozen? ⟨g4, p + 1, none⟩ = false := HO.out.frozenAt (p + 1)
            go_wp2_with fail
            go_quiet (fail)
            go_wp2_with fail
            go_quiet (fail)
            go_wp2_with fail
            have HAS : A' ++ [u] ++ B = A' ++ u :: B := by simp
            refine ⟨⟨A', V', u :: B, rfl, ?_, by rw [HPp.out], ?_, ?_, ?_, ?_, (below_drewN HW2.out _ |>.setCell (p := ⟨g4, p, none⟩) hg4 _).setCell (p := ⟨g4, p + 1, none⟩) hg4 _⟩, by simp [intOf]⟩
            · have h1 := HAB.out
              have h2 := HLn.out
              have h3 := HPp.out
              rw [h2] at h1
              rw [List.length_cons, ← h3]
              omega
            · show World.ownsRow _ _ _ _ _ _ _
              exact swap_own HPp.out (show World.ownsRow _ _ _ _ _ _ _ from HO.out)
            · show Srt _
              rw [← HAS]
              exact HS.out
            · intro b hb
              rcases List.mem_cons.1 hb with rfl | hb
              · exact (lt_lessU _ _).1 hq
              · exact HB.out b hb
            · show List.Perm _ _
              rw [← HAS]
              exact HPm.out
    · obtain rfl : k = N := by omega
      obtain ⟨a2, c2, hv, hc2, htx⟩ := TX_own (l := srt (l.take k)) (by rw [show (srt (l.take k)).length = (l.take k).length from List.length_mergeSort _, List.length_take]; have := HN.out; omega) Q.out
      have HE : Hid (l.take k = l) := by show _ = _; rw [HN.out]; exact List.take_length
      subst hv
      have HTX := hideH htx
      have HC2 := hideH hc2
      clear htx hc2 Q
      go_wp2_with fail
      go_ret
      unfold sorP
      refine ⟨a2, c2, ?_, ?_, ?_, HW.out⟩
      · show Ending.returned (.slice a2 (srt (l.take k)).length c2) = _
        rw [HE.out]
      · have := HC2.out; rwa [HE.out] at this
      · have := HTX.out; rwa [HE.out] at this
end Go.Proofs.YtmpiijipebngcaaGreatDoor

/- The document's own ZonesOf. -/
namespace Go.Proofs.YtmpiijipebngcaaGreatDoor
open Go Go.RowKit Go.Maps
set_option linter.unusedVariables false
end Go.Proofs.YtmpiijipebngcaaGreatDoor
