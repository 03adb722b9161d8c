/- Contracts of slices.Grow (of no slice) and slices.Concat, for strings. -/
import Derived.Test.YtdffopkljomipaaGreatDoorDataF
import Derived.Laws.AppendOwnNone
import Derived.Lib.AppendZerosOnto
namespace Go.Proofs.YtdffopkljomipaaGreatDoor
open Go Go.RowKit
set_option linter.unusedVariables false

/-- an append whose run is known -/
theorem wpList_run {P : Program} {w w' : World} {ops : Array Oper} {rest : List Oper} {o : Oper} {a : Act} {Q : Exit → Act → World → Prop} (hgd : o.guard = none) (s x : Operand) (t u : TypeId) (ho : o.op = .call { callee := .builtin .append, args := #[s, x], argTypes := #[t, u] })
    (v1 v2 v : Value) (hs : a.eval s = v1) (hx : a.eval x = v2) (hrun : (Builtin.append_ #[t, u] o.type #[v1, v2]).run P w = .ok v w') (h : wpList P ops Q rest (a.put o.dst v) w') : wpList P ops Q (o :: rest) a w := by
  refine wpList_plain hgd fun K hK => ?_
  unfold Oper.wp
  simp [execOp, ho, resolve, invoke, builtin, hs, hx, hrun, Result.andThen]
  exact hK _ _ h
set_option maxHeartbeats 4000000 in
theorem Grow_c (n : Nat) (w : World) (hn : n ≤ 10000) : Calls Tryz.prog 88 #[.slice none 0 0, .int .i64 n] w fun e w' => ∃ v, e = .returned v ∧ w'.ownsRow w.heap.size 9 1 v 0 [] ∧ Below w.heap.size w w' := by
  obtain ⟨i0, hi, hz0, hz1, hz2⟩ := info_parts info_str
  by_cases h0 : n = 0
  · subst h0
    clear hi hz0 hz1 hz2
    go_enter Tryz.func88, Tryz.ntmps88
    go_wp2
    go_ret
    exact ⟨_, rfl, World.ownsRow_nil _ _ _ _, Below.refl _ _⟩
  · have hfit : Builtin.nextslicecap (0 + n) 0 * i0.bytes ≤ 281474976710656 := by
      rw [hz2]
      unfold Builtin.nextslicecap
      rw [if_pos (by omega)]; omega
    have hrz : ∀ ty, (Builtin.append_ #[109, 3] ty #[.slice none 0 0, .int .i64 n]).run Tryz.prog w = _ := fun ty =>
      Lib.run_append_grow_zeros w 109 3 ty 9 i0 (.string ⟨#[]⟩) .i64 .i64 Tryz.underlying109 Tryz.underlying3 hi hz0 none 0 0 [] (by rw [hz1]; exact run_firstCells_none w.drew 1 0 0 0) n (by omega) (by rw [hz1]; decide) (by omega) (by omega) (by rw [hz2]; omega) hfit
    simp only [Nat.zero_add] at hrz
    have hge := grownCap_ge w n 0 9
    have hle := grownCap_le_maxLen w n 0 9 (by unfold maxLen; omega)
    obtain ⟨G, hG⟩ : ∃ G, G = grownCap w n 0 9 := ⟨_, rfl⟩
    rw [← hG] at hge hle
    obtain ⟨cs, hcs⟩ : ∃ cs, cs = ([] : List Value).toArray ++ Builtin.zeroCells (Value.string ⟨#[]⟩).cells n ++ Builtin.zeroCells (Value.string ⟨#[]⟩).cells (G - n) := ⟨_, rfl⟩
    have hsz : cs.size = G * 1 := by rw [hcs]; simp [Builtin.zeroCells, Value.cells]; omega
    rw [← hG, ← hcs] at hrz
    have HS := hideH hsz
    have HL := hideH hle
    unfold maxLen at hle
    have HR := hideH hrz
    clear hi hz0 hz1 hz2 hfit hcs hsz hG hrz
    go_enter Tryz.func88, Tryz.ntmps88
    go_wp2_with (at_builtin; refine wpList_run rfl _ _ 109 3 rfl _ _ _ rfl rfl (HR.out _) ?_)
    go_ret
    exact ⟨_, rfl, World.ownsRow_made w.drew cs G (Nat.le_refl _) HL.out HS.out, (Below.refl _ _).drew.alloc (Nat.le_refl _) _⟩

/-- what stands in the first k lists -/
def catL (pn : Nat → Nat) (pf : Nat → Nat → ByteArray) : Nat → List ByteArray
  | 0 => []
  | k + 1 => catL pn pf k ++ (List.range (pn k)).map (pf k)
theorem catL_len (pn : Nat → Nat) (pf : Nat → Nat → ByteArray) (k : Nat) : (catL pn pf (k + 1)).length = (catL pn pf k).length + pn k := by simp [catL]
theorem catL_le (pn : Nat → Nat) (pf : Nat → Nat → ByteArray) (m : Nat) (h : ∀ i, i < m → pn i ≤ 100) : ∀ k, k ≤ m → (catL pn pf k).length ≤ k * 100
  | 0, _ => by simp [catL]
  | k + 1, hk => by rw [catL_len]; have := catL_le pn pf m h k (by omega); have := h k (by omega); omega

theorem p1_news {w : World} {ad : Addr} {n : Nat} {f : Nat → Value} (h : P1 w (some ad) n f) : ∀ j u, ((List.range n).map f)[j]? = some u → w.cell? (ad.add j) = some u := by
  intro j u hu
  have hj : j < n := by
    rcases Nat.lt_or_ge j n with h1 | h1
    · exact h1
    · rw [List.getElem?_eq_none (by simpa using h1)] at hu; cases hu
  rcases h with h0 | ⟨b, off, ha, hc⟩
  · omega
  · injection ha with ha
    subst ha
    have hadd : (⟨b, off, none⟩ : Addr).add j = ⟨b, off + j, none⟩ := by unfold Addr.add; split <;> simp_all
    rw [hadd, hc j hj, ← hu]
    simp [hj]
set_option maxRecDepth 100000 in
set_option maxHeartbeats 4000000 in
theorem Concat_c (gb m : Nat) (pa : Nat → Option Addr) (pn pc : Nat → Nat) (pf : Nat → Nat → ByteArray) (w : World) (hm : m ≤ 100)
    (hcell : ∀ i, i < m → w.cell? ⟨gb, i, none⟩ = some (.slice (pa i) (pn i) (pc i))) (hp : ∀ i, i < m → P1 w (pa i) (pn i) (fun j => .string (pf i j))) (hn : ∀ i, i < m → pn i ≤ 100) (hnil : ∀ i, i < m → pa i = none → pn i = 0 ∧ pc i = 0) :
    Calls Tryz.prog 60 #[.slice (some ⟨gb, 0, none⟩) m m] w fun e w' => ∃ v, e = .returned v ∧ w'.ownsRow w.heap.size 9 1 v (catL pn pf m).length ((catL pn pf m).map .string) ∧ Below w.heap.size w w' := by
  have HC := hideH hcell
  have HP := hideH hp
  have HN := hideH hn
  have HZ := hideH hnil
  have HLE := hideH (catL_le pn pf m hn)
  clear hcell hp hn hnil
  go_enter Tryz.func60, Tryz.ntmps60
  go_wp2_with fail
  go_loop [3, 11] (fun x3 x11 => ∃ k : Nat, k ≤ m ∧ x11 = .int .i64 k ∧ x3 = .int .i64 ((catL pn pf k).length : Nat)) (fun _ x11 => m - (intOf x11).toNat)
  case atStart => exact ⟨0, Nat.zero_le _, rfl, rfl⟩
  case round =>
    obtain ⟨k, hk, rfl, rfl⟩ := hrel
    have b1 := HLE.out k hk
    by_cases hlt : k < m
    · have c0 := HC.out k hlt
      have b2 := HN.out k hlt
      have hge : ¬ (((catL pn pf k).length : Nat) : Int) + (pn k : Int) < 0 := by omega
      have hln := catL_len pn pf k
      have HLN := hideH hln
      clear hln
      generalize (catL pn pf k).length = q at *
      go_wp2_with fail
      go_round
      case rel => exact ⟨k + 1, by omega, by go_num, by rw [HLN.out]; go_num⟩
      case measure => simp [intOf]; omega
    · obtain rfl : k = m := by omega
      generalize hq : (catL pn pf k).length = q at *
      have HQ := hideH hq
      clear hq
      obtain ⟨i0, hi, hz0, hz1, hz2⟩ := info_parts info_str
      go_wp2_with (go_at_call 88; refine (Grow_c q _ (by omega)).mono ?_; rintro e w1 ⟨v, rfl, ho, hb⟩)
      have HO := hideH ho
      have HB := hideH hb
      clear ho hb
      go_loopw [6, 27] (fun x6 x27 wr => ∃ i : Nat, i ≤ k ∧ x27 = .int .i64 i ∧ Hid (wr.ownsRow w.heap.size 9 1 x6 (catL pn pf i).length ((catL pn pf i).map .string)) ∧ Hid (Below w.heap.size w wr)) (fun _ x27 _ => k - (intOf x27).toNat)
      case atStart => exact ⟨0, Nat.zero_le _, rfl, HO, HB⟩
      case round =>
        obtain ⟨i, hi1, rfl, HO2, HW⟩ := hrel
        clear HO HB
        by_cases hli : i < k
        · have c0 := cell_on (HC.out i hli) HW.out
          have b3 := HLE.out i (by omega)
          have b2 := HN.out i hli
          have HPi := hideH ((HP.out i hli).on HW.out)
          have HZi := hideH (HZ.out i hli)
          have HLi := hideH (catL_len pn pf i)
          have HS := hideH (show (catL pn pf (i + 1)).map Value.string = (catL pn pf i).map Value.string ++ (List.range (pn i)).map (fun j => .string (pf i j)) from by simp [catL])
          generalize hqi : (catL pn pf i).length = qi at *
          generalize hai : pa i = ai at *
          clear hqi hai
          cases ai with
          | none =>
            obtain ⟨z1, z2⟩ := HZi.out rfl
            rw [z1, z2] at c0
            have HS2 : Hid ((catL pn pf (i + 1)).map Value.string = (catL pn pf i).map Value.string ∧ (catL pn pf (i + 1)).length = qi) := by
              refine ⟨?_, ?_⟩
              · rw [HS.out, z1]; simp
              · rw [HLi.out, z1]; rfl
            clear z1 z2
            go_wp2_with (at_builtin; refine wpList_append_own_none rfl _ _ 109 rfl w.heap.size 9 i0 1 Tryz.underlying109 hi _ _ _ rfl HO2.out rfl ?_)
            go_roundw
            case rel =>
              refine ⟨i + 1, by omega, by go_num, ?_, HW⟩
              show World.ownsRow _ _ _ _ _ _ _
              rw [HS2.out.1, HS2.out.2]; exact HO2.out
            case measure => simp [intOf]; omega
          | some ad =>
            have hbz := HW.out.size
            go_wp2_with (at_builtin; refine wpList_append_own _ rfl _ _ 109 rfl w.heap.size 9 i0 (.string ⟨#[]⟩) 1 16 Tryz.underlying109 hi hz0 hz1 hz2 rfl (by decide) _ _ _ rfl HO2.out ad (pn i) (pc i) ((List.range (pn i)).map (fun j => .string (pf i j))) rfl (by simp) (p1_news HPi.out) (by simp [Value.oneCell']) (by unfold maxLen; omega) (by omega) hbz ?_; intro v' w2 hown' hgrow _)
            go_roundw
            case rel =>
              refine ⟨i + 1, by omega, by go_num, ?_, ?_⟩
              · show World.ownsRow _ _ _ _ _ _ _
                rw [HS.out, HLi.out]; exact hown'
              · exact HW.out.grown hgrow hbz (fun g hg => (HO2.out.lt g hg).1)
            case measure => simp [intOf]; omega
        · obtain rfl : i = k := by omega
          go_wp2_with fail
          go_ret
          exact ⟨_, rfl, by rw [← HQ.out]; exact HO2.out, HW.out⟩
end Go.Proofs.YtdffopkljomipaaGreatDoor
