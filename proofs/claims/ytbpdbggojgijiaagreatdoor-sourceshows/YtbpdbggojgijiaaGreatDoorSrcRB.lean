/- The document's own: a text cut at a byte; the number that digits may say. -/
import Derived.Test.YtbpdbggojgijiaaGreatDoorSrcRA
import Derived.Test.YtbpdbggojgijiaaGreatDoorSourceGAll
import Derived.Test.YtbpdbggojgijiaaGreatDoorRefApAll
import Derived.Test.YtbpdbggojgijiaaGreatDoorRefAAll
namespace Go.Proofs.YtbpdbggojgijiaaGreatDoor.Src
open Go Go.RowKit Go.Maps
set_option linter.unusedVariables false
set_option linter.unusedSimpArgs false

/-- how far a text is cut -/
def spI (c : UInt8) (l : By) (k f : Nat) (ps : List By) : Prop := (k ≤ l.length ∧ f ≤ k ∧ cutB c l = ps ++ cutB c (l.drop f) ∧ c ∉ (l.drop f).take (k - f)) ∨ (k = l.length + 1 ∧ ps = cutB c l)
theorem sp_cut {c : UInt8} {l : By} {k f : Nat} {ps : List By} (h : spI c l k f ps) (hk : k < l.length) (hc : l[k]? = some c) : spI c l (k + 1) (k + 1) (ps ++ [(l.drop f).take (k - f)]) := by
  rcases h with ⟨h1, h2, h3, h4⟩ | ⟨h1, _⟩
  · refine .inl ⟨hk, Nat.le_refl _, ?_, by simp⟩
    rw [h3, List.append_assoc]
    congr 1
    have e : l.drop f = (l.drop f).take (k - f) ++ c :: l.drop (k + 1) := by
      have e1 : (l.drop f).drop (k - f) = l.drop k := by
        rw [List.drop_drop]
        congr 1
        omega
      have e2 : l.drop k = c :: l.drop (k + 1) := by
        rw [List.drop_eq_getElem_cons hk, (List.getElem?_eq_some_iff.1 hc).2]
      rw [← e2, ← e1, List.take_append_drop]
    conv => lhs; rw [e, cutB_app _ h4]
    rfl
  · omega
theorem sp_on {c x : UInt8} {l : By} {k f : Nat} {ps : List By} (h : spI c l k f ps) (hk : k < l.length) (hc : l[k]? = some x) (hx : x ≠ c) : spI c l (k + 1) f ps := by
  rcases h with ⟨h1, h2, h3, h4⟩ | ⟨h1, _⟩
  · refine .inl ⟨hk, by omega, h3, fun hm => ?_⟩
    rw [show k + 1 - f = (k - f) + 1 by omega, List.take_add_one] at hm
    rcases List.mem_append.1 hm with hm | hm
    · exact h4 hm
    · rw [List.getElem?_drop, show f + (k - f) = k by omega, hc] at hm
      simp at hm
      exact hx hm.symm
  · omega
theorem sp_end {c : UInt8} {l : By} {f : Nat} {ps : List By} (h : spI c l l.length f ps) : spI c l (l.length + 1) (l.length + 1) (ps ++ [(l.drop f).take (l.length - f)]) := by
  rcases h with ⟨h1, h2, h3, h4⟩ | ⟨h1, _⟩
  · refine .inr ⟨rfl, ?_⟩
    have e : (l.drop f).take (l.length - f) = l.drop f := List.take_of_length_le (by simp)
    rw [e] at h4 ⊢
    rw [h3, cutB_none h4]
  · omega
theorem ext_list (s : ByteArray) (f k : Nat) : s.extract f k = ⟨((s.data.toList.drop f).take (k - f)).toArray⟩ := by
  apply ByteArray.ext
  rw [ByteArray.data_extract]
  apply Array.toList_inj.1
  simp [List.extract_eq_take_drop]
/-- the answer -/
def spQ (c : UInt8) (l : By) (w : World) (e : Ending) (w' : World) : Prop := ∃ v, e = .returned v ∧ w'.ownsRow w.heap.size 9 1 v (cutB c l).length ((cutB c l).map fun x => .string ⟨x.toArray⟩) ∧ Below w.heap.size w w'
set_option maxHeartbeats 4000000 in
set_option maxRecDepth 100000 in
theorem split_c (s : ByteArray) (c : UInt8) (w : World) (hs : s.size ≤ 1000000) : Calls Tryz.prog 29 #[.string s, .int .u8 (c.toNat : Int)] w fun e w' => spQ c s.data.toList w e w' := by
  obtain ⟨i0, hi, hz0, hz1, hz2⟩ := info_parts info_str
  have H0 := hideS (Below.refl w.heap.size w)
  have hl : s.data.toList.length = s.size := by simp
  have HL := hideS hl
  clear hl
  go_enter Tryz.func29, Tryz.ntmps29
  go_wp2_with fail
  go_loopw [5, 6, 7] (fun x5 x6 x7 wr => ∃ (k f : Nat) (ps : List By), k ≤ s.size + 1 ∧ f ≤ k ∧ ps.length ≤ k ∧ x6 = .int .i64 f ∧ x7 = .int .i64 k ∧ Hid (wr.ownsRow w.heap.size 9 1 x5 ps.length (ps.map fun x => .string ⟨x.toArray⟩)) ∧ Hid (spI c s.data.toList k f ps) ∧ Hid (Below w.heap.size w wr)) (fun _ _ x7 _ => s.size + 1 - (intOf x7).toNat)
  case atStart => exact ⟨0, 0, [], Nat.zero_le _, Nat.le_refl _, Nat.le_refl _, rfl, rfl, World.ownsRow_nil _ _ _ _, .inl ⟨Nat.zero_le _, Nat.le_refl _, rfl, by simp⟩, H0⟩
  case round =>
    obtain ⟨k, f, ps, hk, hf, hp, rfl, rfl, HO, HI, HB⟩ := hrel
    have hsz : w.heap.size ≤ wr.heap.size := HB.out.size
    by_cases hle : k ≤ s.size
    · by_cases hlt : k < s.size
      · have hne : ((k : Int) == (s.size : Int)) = false := beq_eq_false_iff_ne.2 (by omega)
        have hx : s.data.toList[k]? = some s[k] := by
          rw [List.getElem?_eq_getElem (by rw [HL.out]; exact hlt)]
          rfl
        by_cases hc : s[k] = c
        · have hcc : (s[k].toNat : Int) = (c.toNat : Int) := by rw [hc]
          have HI2 := hideS (sp_cut HI.out (by rw [HL.out]; exact hlt) (by rw [hx, hc]))
          have HX := hideS (ext_list s f k)
          have hfk : (f : Int) ≤ (k : Int) := by omega
          have hks : (k : Int) ≤ (s.size : Int) := by omega
          clear hx
          go_wp2_with (at_builtin; refine wpList_append_lies _ rfl _ _ 57 rfl w.heap.size 9 i0 (.string ⟨#[]⟩) 1 16 Tryz.underlying57 hi hz0 hz1 hz2 rfl (by decide) _ _ _ rfl (HO.out.alloc _) ⟨wr.heap.size, 0, none⟩ 1 1 [.string (s.extract f k)] rfl rfl (cell_one_new _ _ _) (by simp [Value.oneCell']) (by decide) (by unfold maxLen; omega) (by omega) (by simp; omega) _ rfl ?_; intro g4 q4 w1 hown hgrow hat hl1; refine Hid.out ?_)
          refine hideS ?_
          have H1 := hideS (below_grown0 (HB.out.alloc (by omega) _) (HO.out.alloc _) hgrow)
          have S3 : Hid (w1.ownsRow w.heap.size 9 1 (.slice (some ⟨g4, 0, none⟩) (ps.length + 1) q4) (ps ++ [(s.data.toList.drop f).take (k - f)]).length ((ps ++ [(s.data.toList.drop f).take (k - f)]).map fun x => .string ⟨x.toArray⟩)) := by
            have h := hown
            rw [HX.out] at h
            rw [List.length_append, List.map_append]
            exact h
          have hp2 : (ps ++ [(s.data.toList.drop f).take (k - f)]).length ≤ k + 1 := by rw [List.length_append]; simp; omega
          clear hown hgrow hat HO HB HI
          go_wp2_with fail
          go_roundw
          case rel => exact ⟨k + 1, k + 1, _, by omega, Nat.le_refl _, hp2, by go_num, by go_num, S3, HI2, H1⟩
          case measure => simp [intOf]; omega
        · have hcc : ((s[k].toNat : Int) == (c.toNat : Int)) = false := beq_eq_false_iff_ne.2 fun e => hc (UInt8.toNat_inj.1 (by omega))
          have HI2 := hideS (sp_on HI.out (by rw [HL.out]; exact hlt) hx hc)
          clear hx hc
          go_wp2_with fail
          go_roundw
          case rel => exact ⟨k + 1, f, ps, by omega, by omega, by omega, rfl, by go_num, HO, HI2, HB⟩
          case measure => simp [intOf]; omega
      · obtain rfl : k = s.size := by omega
        have HI2 : Hid (spI c s.data.toList (s.size + 1) (s.size + 1) (ps ++ [(s.data.toList.drop f).take (s.size - f)])) := by
          have h := HI.out
          rw [← HL.out] at h
          have := sp_end h
          rw [HL.out] at this
          exact this
        have HX := hideS (ext_list s f s.size)
        have hfk : (f : Int) ≤ (s.size : Int) := by omega
        go_wp2_with (at_builtin; refine wpList_append_lies _ rfl _ _ 57 rfl w.heap.size 9 i0 (.string ⟨#[]⟩) 1 16 Tryz.underlying57 hi hz0 hz1 hz2 rfl (by decide) _ _ _ rfl (HO.out.alloc _) ⟨wr.heap.size, 0, none⟩ 1 1 [.string (s.extract f s.size)] rfl rfl (cell_one_new _ _ _) (by simp [Value.oneCell']) (by decide) (by unfold maxLen; omega) (by omega) (by simp; omega) _ rfl ?_; intro g4 q4 w1 hown hgrow hat hl1; refine Hid.out ?_)
        refine hideS ?_
        have H1 := hideS (below_grown0 (HB.out.alloc (by omega) _) (HO.out.alloc _) hgrow)
        have S3 : Hid (w1.ownsRow w.heap.size 9 1 (.slice (some ⟨g4, 0, none⟩) (ps.length + 1) q4) (ps ++ [(s.data.toList.drop f).take (s.size - f)]).length ((ps ++ [(s.data.toList.drop f).take (s.size - f)]).map fun x => .string ⟨x.toArray⟩)) := by
          have h := hown
          rw [HX.out] at h
          rw [List.length_append, List.map_append]
          exact h
        have hp2 : (ps ++ [(s.data.toList.drop f).take (s.size - f)]).length ≤ s.size + 1 := by rw [List.length_append]; simp; omega
        clear hown hgrow hat HO HB HI
        go_wp2_with fail
        go_roundw
        case rel => exact ⟨s.size + 1, s.size + 1, _, by omega, Nat.le_refl _, hp2, by go_num, by go_num, S3, HI2, H1⟩
        case measure => simp [intOf]
    · obtain rfl : k = s.size + 1 := by omega
      have HE : Hid (ps = cutB c s.data.toList) := by
        rcases HI.out with ⟨h1, _⟩ | ⟨_, h2⟩
        · exact absurd h1 (by rw [HL.out]; omega)
        · exact h2
      have hgt : ¬ ((s.size : Int) + 1 ≤ (s.size : Int)) := by omega
      go_wp2_with fail
      go_ret
      refine ⟨_, rfl, ?_, HB.out⟩
      rw [← HE.out]
      exact HO.out
/-- the number so far -/
def sayN : Nat → By → Nat
  | n, [] => n
  | n, b :: l => sayN (if b = 45 then n else 10 * n + (b - 48).toNat) l
/-- the number that digits may say -/
def sayP (l : By) : Int := if 1 ≤ l.length ∧ l.length ≤ 12 then (if l[0]? = some 45 then -(sayN 0 l : Int) else sayN 0 l) else 0
theorem sayN_app : ∀ (a b : By) (n : Nat), sayN n (a ++ b) = sayN (sayN n a) b
  | [], b, n => rfl
  | x :: a, b, n => sayN_app a b _
theorem sayN_take (l : By) (k : Nat) (x : UInt8) (h : l[k]? = some x) : sayN 0 (l.take (k + 1)) = if x = 45 then sayN 0 (l.take k) else 10 * sayN 0 (l.take k) + (x - 48).toNat := by
  rw [List.take_add_one, h, sayN_app]
  rfl
theorem sayN_le : ∀ (l : By) (n : Nat), sayN n l ≤ (n + 29) * 10 ^ l.length - 29
  | [], n => by simp [sayN]
  | b :: l, n => by
    unfold sayN
    have h1 := sayN_le l (if b = 45 then n else 10 * n + (b - 48).toNat)
    have h2 := (b - 48).toNat_lt
    refine Nat.le_trans h1 ?_
    have h3 : (if b = 45 then n else 10 * n + (b - 48).toNat) + 29 ≤ (n + 29) * 10 := by split <;> omega
    have h4 : ((if b = 45 then n else 10 * n + (b - 48).toNat) + 29) * 10 ^ l.length ≤ (n + 29) * 10 * 10 ^ l.length := Nat.mul_le_mul_right _ h3
    rw [List.length_cons, Nat.pow_succ, Nat.mul_comm (10 ^ l.length) 10, ← Nat.mul_assoc]
    omega
theorem sayN_small (l : By) (h : l.length ≤ 12) : sayN 0 l ≤ 29000000000000 := by
  have h1 := sayN_le l 0
  have h2 : 10 ^ l.length ≤ 10 ^ 12 := Nat.pow_le_pow_right (by decide) h
  have h3 : (0 + 29) * 10 ^ l.length ≤ 29 * 10 ^ 12 := by
    rw [Nat.zero_add]
    exact Nat.mul_le_mul_left _ h2
  have h4 : 29 * 10 ^ 12 = 29000000000000 := by decide
  omega
theorem sub48 (x : UInt8) : ((x - 48).toNat : Int) = ((x.toNat : Int) - 48) % 256 := by
  rw [UInt8.toNat_sub]
  have := x.toNat_lt
  have e : (2 ^ 8 - UInt8.toNat 48 + x.toNat) % 2 ^ 8 = (208 + x.toNat) % 256 := rfl
  rw [e]
  omega
set_option maxHeartbeats 4000000 in
set_option maxRecDepth 100000 in
theorem said_c (s : ByteArray) (w : World) : Calls Tryz.prog 30 #[.string s] w fun e w' => e = .returned (.int .i64 (sayP s.data.toList)) ∧ w' = w := by
  have hl : s.data.toList.length = s.size := by simp
  by_cases h1 : 1 ≤ s.size ∧ s.size ≤ 12
  · have hin := in_mk (n := (s.size : Int)) (a := 1) (b := 12) ⟨by omega, by omega⟩
    have HV : Hid (sayP s.data.toList = if s.data.toList[0]? = some 45 then -(sayN 0 s.data.toList : Int) else sayN 0 s.data.toList) := by
      show sayP _ = _
      unfold sayP
      rw [if_pos (by rw [hl]; exact h1)]
    obtain ⟨V, hV⟩ : ∃ V, V = sayP s.data.toList := ⟨_, rfl⟩
    rw [← hV] at HV ⊢
    have HL := hideS hl
    have hz : 0 < s.size := h1.1
    have h12 := h1.2
    have HS : Hid (∀ k, k ≤ s.size → sayN 0 (s.data.toList.take k) ≤ 29000000000000) := fun k hk => sayN_small _ (by simp; omega)
    clear hl hV h1
    go_enter Tryz.func30, Tryz.ntmps30
    go_wp2_with (go_at_call 17; refine (within_c _ _ _ _).mono ?_; rintro e w ⟨rfl, rfl⟩; rw [hin])
    go_loop [3, 4] (fun x3 x4 => ∃ k : Nat, k ≤ s.size ∧ x3 = .int .i64 (sayN 0 (s.data.toList.take k) : Int) ∧ x4 = .int .i64 k) (fun _ x4 => s.size - (intOf x4).toNat)
    case atStart => exact ⟨0, Nat.zero_le _, rfl, rfl⟩
    case round =>
      obtain ⟨k, hk, rfl, rfl⟩ := hrel
      by_cases hlt : k < s.size
      · have hx : s.data.toList[k]? = some s[k] := by
          rw [List.getElem?_eq_getElem (by rw [HL.out]; exact hlt)]
          rfl
        have HT := hideS (sayN_take _ k _ hx)
        have hb := s[k].toNat_lt
        have hn := HS.out k hk
        obtain ⟨n, hn2⟩ : ∃ n, n = sayN 0 (s.data.toList.take k) := ⟨_, rfl⟩
        simp only [← hn2]
        rw [← hn2] at hn HT
        clear hx hn2
        by_cases hc : s[k] = 45
        · have hcc : (s[k].toNat : Int) = 45 := by rw [hc]; rfl
          rw [if_pos hc] at HT
          go_wp2_with fail
          go_round
          case rel => exact ⟨k + 1, by omega, by rw [HT.out], by go_num⟩
          case measure => simp [intOf]; omega
        · have hcc : ((s[k].toNat : Int) == 45) = false := beq_eq_false_iff_ne.2 fun e => hc (UInt8.toNat_inj.1 (show _ = 45 by omega))
          rw [if_neg hc] at HT
          have h48 := sub48 s[k]
          have hlt2 := (s[k] - 48).toNat_lt
          go_wp2_with fail
          go_round
          case rel => exact ⟨k + 1, by omega, by rw [HT.out]; exact congrArg (Value.int .i64) (by omega), by go_num⟩
          case measure => simp [intOf]; omega
      · obtain rfl : k = s.size := by omega
        have e : s.data.toList.take s.size = s.data.toList := by rw [← HL.out, List.take_length]
        rw [e]
        have hn := HS.out s.size (Nat.le_refl _)
        rw [e] at hn
        have h0 : s.data.toList[0]? = some s[0] := by
          rw [List.getElem?_eq_getElem (by rw [HL.out]; exact hz)]
          rfl
        rw [h0] at HV
        obtain ⟨n, hn2⟩ : ∃ n, n = sayN 0 s.data.toList := ⟨_, rfl⟩
        rw [← hn2] at HV hn ⊢
        clear h0 hn2 e
        have hb := s[0].toNat_lt
        by_cases hc : s[0] = 45
        · have hcc : (s[0].toNat : Int) = 45 := by rw [hc]; rfl
          rw [if_pos (by rw [hc])] at HV
          go_wp2_with fail
          go_ret
          refine ⟨?_, rfl⟩
          rw [HV.out]
          rfl
        · have hcc : ((s[0].toNat : Int) == 45) = false := beq_eq_false_iff_ne.2 fun e => hc (UInt8.toNat_inj.1 (show _ = 45 by omega))
          rw [if_neg (fun e => hc (Option.some.inj e))] at HV
          go_wp2_with fail
          go_ret
          refine ⟨?_, rfl⟩
          rw [HV.out]
          rfl
  · have hout : inB (s.size : Int) 1 12 = false := by
      cases e : inB (s.size : Int) 1 12 with
      | false => rfl
      | true => have := in_of e; omega
    have hV : sayP s.data.toList = 0 := by
      unfold sayP
      rw [if_neg (by rw [hl]; exact h1)]
    rw [hV]
    clear hl h1 hV
    go_enter Tryz.func30, Tryz.ntmps30
    go_wp2_with (go_at_call 17; refine (within_c _ _ _ _).mono ?_; rintro e w ⟨rfl, rfl⟩; rw [hout])
    go_ret
    exact ⟨rfl, rfl⟩
end Go.Proofs.YtbpdbggojgijiaaGreatDoor.Src
