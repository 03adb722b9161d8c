/- Contracts of package data: refuseRules; names, and what tells them. -/
import Derived.Test.YtdffopkljomipaaGreatDoorDataD
import Derived.Maps.AppendAt
namespace Go.Proofs.YtdffopkljomipaaGreatDoor
open Go Go.RowKit
set_option linter.unusedVariables false

/-- n cells in a row -/
def P1 (w : World) (a : Option Addr) (n : Nat) (f : Nat → Value) : Prop := n = 0 ∨ ∃ b off, a = some ⟨b, off, none⟩ ∧ ∀ j, j < n → w.cell? ⟨b, off + j, none⟩ = some (f j)
theorem P1.on {w w' : World} {a : Option Addr} {n : Nat} {f : Nat → Value} (h : P1 w a n f) (hb : Below w.heap.size w w') : P1 w' a n f := by
  rcases h with h | ⟨b, off, h1, h2⟩
  · exact .inl h
  · exact .inr ⟨b, off, h1, fun j hj => cell_on (h2 j hj) hb⟩
theorem own_on {w w' : World} {base size n : Nat} {e : TypeId} {v : Value} {xs : List Value} (h : w.ownsRow base e size v n xs) (hb : Below w.heap.size w w') : w'.ownsRow base e size v n xs :=
  h.kept (row := none) ⟨hb.os, hb.tape, hb.output, hb.size, fun k hk _ => hb.block k hk⟩ (by cases v.ownBlock <;> simp)
/-- what the call owns, to read -/
theorem own_p1 {w : World} {base n : Nat} {e : TypeId} {v : Value} {f : Nat → Value} (h : w.ownsRow base e 1 v n ((List.range n).map f)) : ∃ a c, v = .slice a n c ∧ n ≤ c ∧ P1 w a n f := by
  rcases h.2 with ⟨rfl, rfl⟩ | ⟨g, cap, cur, rfl, hb, hg, hn, hm, hs, ht⟩
  · exact ⟨none, 0, rfl, Nat.le_refl _, .inl rfl⟩
  · refine ⟨some ⟨g, 0, none⟩, cap, rfl, hn, .inr ⟨g, 0, rfl, fun j hj => ?_⟩⟩
    have h2 := h.cellAt j (by omega)
    rw [Nat.zero_add, h2]
    simp [hj]

theorem info_str : (Tryz.prog.info? 9).map (fun i => (i.zero, i.size, i.bytes)) = some (some (.string ⟨#[]⟩), 1, 16) := by kernel_rfl

theorem check1_c (s : ByteArray) (v : Value) (w : World) : Calls Tryz.prog 54 #[.agg #[.string s, v]] w fun e w' => e = .returned (.string s) ∧ Below w.heap.size w w' := by
  have hb := hideH ((Below.refl _ w).alloc (Nat.le_refl _) (.cells #[.string s, v] 53))
  go_enter Tryz.func54, Tryz.ntmps54
  go_wp2
  go_ret
  exact ⟨rfl, hb.out⟩
theorem check2_c (s : ByteArray) (v : Value) (w : World) : Calls Tryz.prog 56 #[.agg #[.string s, v]] w fun e w' => e = .returned (.string s) ∧ Below w.heap.size w w' := by
  have hb := hideH ((Below.refl _ w).alloc (Nat.le_refl _) (.cells #[.string s, v] 48))
  go_enter Tryz.func56, Tryz.ntmps56
  go_wp2
  go_ret
  exact ⟨rfl, hb.out⟩
theorem check3_c (s t : ByteArray) (w : World) : Calls Tryz.prog 58 #[.agg #[.string s, .string t]] w fun e w' => e = .returned (.string s) ∧ Below w.heap.size w w' := by
  have hb := hideH ((Below.refl _ w).alloc (Nat.le_refl _) (.cells #[.string s, .string t] 90))
  go_enter Tryz.func58, Tryz.ntmps58
  go_wp2
  go_ret
  exact ⟨rfl, hb.out⟩
theorem check4_c (s t : ByteArray) (w : World) : Calls Tryz.prog 59 #[.agg #[.string s, .string t]] w fun e w' => e = .returned (.string t) ∧ Below w.heap.size w w' := by
  have hb := hideH ((Below.refl _ w).alloc (Nat.le_refl _) (.cells #[.string s, .string t] 90))
  go_enter Tryz.func59, Tryz.ntmps59
  go_wp2
  go_ret
  exact ⟨rfl, hb.out⟩

set_option maxHeartbeats 4000000 in
theorem namesS_c (a : Option Addr) (n c : Nat) (ss : Nat → St) (w : World) (hn : n ≤ 1000) (hP : P2 w a n (fun j => .string (ss j).nm) (fun j => (ss j).sl)) :
    Calls Tryz.prog 53 #[.slice a n c, .func (.func 54) #[] #[]] w fun e w' => ∃ v, e = .returned v ∧ w'.ownsRow w.heap.size 9 1 v n ((List.range n).map fun j => .string (ss j).nm) ∧ Below w.heap.size w w' := by
  have HP := hideH hP
  clear hP
  obtain ⟨i0, hi, hz0, hz1, hz2⟩ := info_parts info_str
  go_enter Tryz.func53, Tryz.ntmps53
  go_wp2_with fail
  go_loopw [5, 10] (fun x5 x10 wr => ∃ j : Nat, j ≤ n ∧ x10 = .int .i64 j ∧ Hid (wr.ownsRow w.heap.size 9 1 x5 j ((List.range j).map fun j => .string (ss j).nm)) ∧ Hid (Below w.heap.size w wr)) (fun _ x10 _ => n - (intOf x10).toNat)
  case atStart => exact ⟨0, Nat.zero_le _, rfl, World.ownsRow_nil _ _ _ _, Below.refl _ _⟩
  case round =>
    obtain ⟨j, hj, rfl, HO5, HW⟩ := hrel
    by_cases hlt : j < n
    · rcases HP.out.on HW.out with h0 | ⟨b, off, hsa, hcs⟩
      · omega
      obtain ⟨c0, c1⟩ := hcs j hlt
      clear hcs
      have hb := hideH ((Below.refl _ wr).alloc (Nat.le_refl _) (.cells #[.string (ss j).nm, (ss j).sl] 53))
      have hbz := hideH HW.out.size
      go_wp2_with (first
        | (go_at_call 54; refine (check1_c (ss j).nm (ss j).sl _).mono ?_; rintro e w1 ⟨rfl, hw1⟩; have H1 := hideH (bthen hb.out hw1); have O1 := hideH (own_on HO5.out H1.out); have hs1 := hideH (Nat.le_trans hbz.out H1.out.size); clear hw1)
        | (at_builtin; refine wpList_append_own _ rfl _ _ 109 rfl w.heap.size 9 i0 (.string ⟨#[]⟩) 1 16 Tryz.underlying109 hi hz0 hz1 hz2 rfl (by decide) _ _ _ rfl (O1.out.alloc _) ⟨w1.heap.size, 0, none⟩ 1 1 [.string (ss j).nm] rfl rfl (cell_one_new _ _ _) (by simp [Value.oneCell']) (by unfold maxLen; omega) (by omega) (by have := hs1.out; simp; omega) ?_; intro v' w2 hown' hgrow _))
      have hbl := hideH ((bthen HW.out H1.out).trans (((Below.refl _ w1).alloc (Nat.le_refl _) (.cells #[.string (ss j).nm] 9)).mono hs1.out))
      try simp only [← hsa]
      go_roundw
      case rel =>
        refine ⟨j + 1, by omega, by go_num, ?_, ?_⟩
        · show World.ownsRow _ _ _ _ _ _ _
          rw [List.range_succ, List.map_append]
          exact hown'
        · show Below _ _ _
          exact hbl.out.grown hgrow (by have := hs1.out; simp; omega) (fun k hk => (O1.out.lt k hk).1)
      case measure => simp [intOf]; omega
    · obtain rfl : j = n := by omega
      go_wp2_with fail
      go_ret
      exact ⟨_, rfl, HO5.out, HW.out⟩

set_option maxHeartbeats 4000000 in
theorem namesZ_c (a : Option Addr) (n c : Nat) (zs : Nat → Zn) (w : World) (hn : n ≤ 1000) (hP : P2 w a n (fun j => .string (zs j).nm) (fun j => (zs j).sl)) :
    Calls Tryz.prog 55 #[.slice a n c, .func (.func 56) #[] #[]] w fun e w' => ∃ v, e = .returned v ∧ w'.ownsRow w.heap.size 9 1 v n ((List.range n).map fun j => .string (zs j).nm) ∧ Below w.heap.size w w' := by
  have HP := hideH hP
  clear hP
  obtain ⟨i0, hi, hz0, hz1, hz2⟩ := info_parts info_str
  go_enter Tryz.func55, Tryz.ntmps55
  go_wp2_with fail
  go_loopw [5, 10] (fun x5 x10 wr => ∃ j : Nat, j ≤ n ∧ x10 = .int .i64 j ∧ Hid (wr.ownsRow w.heap.size 9 1 x5 j ((List.range j).map fun j => .string (zs j).nm)) ∧ Hid (Below w.heap.size w wr)) (fun _ x10 _ => n - (intOf x10).toNat)
  case atStart => exact ⟨0, Nat.zero_le _, rfl, World.ownsRow_nil _ _ _ _, Below.refl _ _⟩
  case round =>
    obtain ⟨j, hj, rfl, HO5, HW⟩ := hrel
    by_cases hlt : j < n
    · rcases HP.out.on HW.out with h0 | ⟨b, off, hsa, hcs⟩
      · omega
      obtain ⟨c0, c1⟩ := hcs j hlt
      clear hcs
      have hb := hideH ((Below.refl _ wr).alloc (Nat.le_refl _) (.cells #[.string (zs j).nm, (zs j).sl] 48))
      have hbz := hideH HW.out.size
      go_wp2_with (first
        | (go_at_call 56; refine (check2_c (zs j).nm (zs j).sl _).mono ?_; rintro e w1 ⟨rfl, hw1⟩; have H1 := hideH (bthen hb.out hw1); have O1 := hideH (own_on HO5.out H1.out); have hs1 := hideH (Nat.le_trans hbz.out H1.out.size); clear hw1)
        | (at_builtin; refine wpList_append_own _ rfl _ _ 109 rfl w.heap.size 9 i0 (.string ⟨#[]⟩) 1 16 Tryz.underlying109 hi hz0 hz1 hz2 rfl (by decide) _ _ _ rfl (O1.out.alloc _) ⟨w1.heap.size, 0, none⟩ 1 1 [.string (zs j).nm] rfl rfl (cell_one_new _ _ _) (by simp [Value.oneCell']) (by unfold maxLen; omega) (by omega) (by have := hs1.out; simp; omega) ?_; intro v' w2 hown' hgrow _))
      have hbl := hideH ((bthen HW.out H1.out).trans (((Below.refl _ w1).alloc (Nat.le_refl _) (.cells #[.string (zs j).nm] 9)).mono hs1.out))
      try simp only [← hsa]
      go_roundw
      case rel =>
        refine ⟨j + 1, by omega, by go_num, ?_, ?_⟩
        · show World.ownsRow _ _ _ _ _ _ _
          rw [List.range_succ, List.map_append]
          exact hown'
        · show Below _ _ _
          exact hbl.out.grown hgrow (by have := hs1.out; simp; omega) (fun k hk => (O1.out.lt k hk).1)
      case measure => simp [intOf]; omega
    · obtain rfl : j = n := by omega
      go_wp2_with fail
      go_ret
      exact ⟨_, rfl, HO5.out, HW.out⟩

set_option maxHeartbeats 4000000 in
theorem namesL_c (a : Option Addr) (n c : Nat) (ls : Nat → Lk) (w : World) (hn : n ≤ 1000) (hP : P2 w a n (fun j => .string (ls j).nm) (fun j => .string (ls j).to)) :
    Calls Tryz.prog 57 #[.slice a n c, .func (.func 58) #[] #[]] w fun e w' => ∃ v, e = .returned v ∧ w'.ownsRow w.heap.size 9 1 v n ((List.range n).map fun j => .string (ls j).nm) ∧ Below w.heap.size w w' := by
  have HP := hideH hP
  clear hP
  obtain ⟨i0, hi, hz0, hz1, hz2⟩ := info_parts info_str
  go_enter Tryz.func57, Tryz.ntmps57
  go_wp2_with fail
  go_loopw [5, 10] (fun x5 x10 wr => ∃ j : Nat, j ≤ n ∧ x10 = .int .i64 j ∧ Hid (wr.ownsRow w.heap.size 9 1 x5 j ((List.range j).map fun j => .string (ls j).nm)) ∧ Hid (Below w.heap.size w wr)) (fun _ x10 _ => n - (intOf x10).toNat)
  case atStart => exact ⟨0, Nat.zero_le _, rfl, World.ownsRow_nil _ _ _ _, Below.refl _ _⟩
  case round =>
    obtain ⟨j, hj, rfl, HO5, HW⟩ := hrel
    by_cases hlt : j < n
    · rcases HP.out.on HW.out with h0 | ⟨b, off, hsa, hcs⟩
      · omega
      obtain ⟨c0, c1⟩ := hcs j hlt
      clear hcs
      have hb := hideH ((Below.refl _ wr).alloc (Nat.le_refl _) (.cells #[.string (ls j).nm, .string (ls j).to] 90))
      have hbz := hideH HW.out.size
      go_wp2_with (first
        | (go_at_call 58; refine (check3_c (ls j).nm (ls j).to _).mono ?_; rintro e w1 ⟨rfl, hw1⟩; have H1 := hideH (bthen hb.out hw1); have O1 := hideH (own_on HO5.out H1.out); have hs1 := hideH (Nat.le_trans hbz.out H1.out.size); clear hw1)
        | (at_builtin; refine wpList_append_own _ rfl _ _ 109 rfl w.heap.size 9 i0 (.string ⟨#[]⟩) 1 16 Tryz.underlying109 hi hz0 hz1 hz2 rfl (by decide) _ _ _ rfl (O1.out.alloc _) ⟨w1.heap.size, 0, none⟩ 1 1 [.string (ls j).nm] rfl rfl (cell_one_new _ _ _) (by simp [Value.oneCell']) (by unfold maxLen; omega) (by omega) (by have := hs1.out; simp; omega) ?_; intro v' w2 hown' hgrow _))
      have hbl := hideH ((bthen HW.out H1.out).trans (((Below.refl _ w1).alloc (Nat.le_refl _) (.cells #[.string (ls j).nm] 9)).mono hs1.out))
      try simp only [← hsa]
      go_roundw
      case rel =>
        refine ⟨j + 1, by omega, by go_num, ?_, ?_⟩
        · show World.ownsRow _ _ _ _ _ _ _
          rw [List.range_succ, List.map_append]
          exact hown'
        · show Below _ _ _
          exact hbl.out.grown hgrow (by have := hs1.out; simp; omega) (fun k hk => (O1.out.lt k hk).1)
      case measure => simp [intOf]; omega
    · obtain rfl : j = n := by omega
      go_wp2_with fail
      go_ret
      exact ⟨_, rfl, HO5.out, HW.out⟩

set_option maxHeartbeats 4000000 in
theorem namesT_c (a : Option Addr) (n c : Nat) (ls : Nat → Lk) (w : World) (hn : n ≤ 1000) (hP : P2 w a n (fun j => .string (ls j).nm) (fun j => .string (ls j).to)) :
    Calls Tryz.prog 57 #[.slice a n c, .func (.func 59) #[] #[]] w fun e w' => ∃ v, e = .returned v ∧ w'.ownsRow w.heap.size 9 1 v n ((List.range n).map fun j => .string (ls j).to) ∧ Below w.heap.size w w' := by
  have HP := hideH hP
  clear hP
  obtain ⟨i0, hi, hz0, hz1, hz2⟩ := info_parts info_str
  go_enter Tryz.func57, Tryz.ntmps57
  go_wp2_with fail
  go_loopw [5, 10] (fun x5 x10 wr => ∃ j : Nat, j ≤ n ∧ x10 = .int .i64 j ∧ Hid (wr.ownsRow w.heap.size 9 1 x5 j ((List.range j).map fun j => .string (ls j).to)) ∧ Hid (Below w.heap.size w wr)) (fun _ x10 _ => n - (intOf x10).toNat)
  case atStart => exact ⟨0, Nat.zero_le _, rfl, World.ownsRow_nil _ _ _ _, Below.refl _ _⟩
  case round =>
    obtain ⟨j, hj, rfl, HO5, HW⟩ := hrel
    by_cases hlt : j < n
    · rcases HP.out.on HW.out with h0 | ⟨b, off, hsa, hcs⟩
      · omega
      obtain ⟨c0, c1⟩ := hcs j hlt
      clear hcs
      have hb := hideH ((Below.refl _ wr).alloc (Nat.le_refl _) (.cells #[.string (ls j).nm, .string (ls j).to] 90))
      have hbz := hideH HW.out.size
      go_wp2_with (first
        | (go_at_call 59; refine (check4_c (ls j).nm (ls j).to _).mono ?_; rintro e w1 ⟨rfl, hw1⟩; have H1 := hideH (bthen hb.out hw1); have O1 := hideH (own_on HO5.out H1.out); have hs1 := hideH (Nat.le_trans hbz.out H1.out.size); clear hw1)
        | (at_builtin; refine wpList_append_own _ rfl _ _ 109 rfl w.heap.size 9 i0 (.string ⟨#[]⟩) 1 16 Tryz.underlying109 hi hz0 hz1 hz2 rfl (by decide) _ _ _ rfl (O1.out.alloc _) ⟨w1.heap.size, 0, none⟩ 1 1 [.string (ls j).to] rfl rfl (cell_one_new _ _ _) (by simp [Value.oneCell']) (by unfold maxLen; omega) (by omega) (by have := hs1.out; simp; omega) ?_; intro v' w2 hown' hgrow _))
      have hbl := hideH ((bthen HW.out H1.out).trans (((Below.refl _ w1).alloc (Nat.le_refl _) (.cells #[.string (ls j).to] 9)).mono hs1.out))
      try simp only [← hsa]
      go_roundw
      case rel =>
        refine ⟨j + 1, by omega, by go_num, ?_, ?_⟩
        · show World.ownsRow _ _ _ _ _ _ _
          rw [List.range_succ, List.map_append]
          exact hown'
        · show Below _ _ _
          exact hbl.out.grown hgrow (by have := hs1.out; simp; omega) (fun k hk => (O1.out.lt k hk).1)
      case measure => simp [intOf]; omega
    · obtain rfl : j = n := by omega
      go_wp2_with fail
      go_ret
      exact ⟨_, rfl, HO5.out, HW.out⟩
end Go.Proofs.YtdffopkljomipaaGreatDoor
