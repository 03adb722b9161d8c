/- The document's own times: the closure that puts one. -/
import Derived.Test.YtdffopkljomipaaGreatDoorTableP
import Derived.Test.YtdffopkljomipaaGreatDoorTableH
import Derived.Test.YtdffopkljomipaaGreatDoorTableA
import Derived.Laws.CopyOwn
namespace Go.Proofs.YtdffopkljomipaaGreatDoor
open Go Go.RowKit Go.Maps
set_option linter.unusedVariables false

/-- a variable that holds a row of ints -/
def PB (w : World) (m pb : Nat) (L : List Int) : Prop := ∃ v, w.heap[pb]? = some (.cells #[v] 62) ∧ w.ownsRow m 3 1 v L.length (L.map encI)
/-- all but ints' rows, and their variables, is as it was -/
def KeptI (w w' : World) : Prop := ∀ (b : Nat) (cs : Array Value) (ty : TypeId) (fr : Nat × Nat), w.heap[b]? = some (.cells cs ty fr) → ty ≠ 3 → ty ≠ 62 → w'.heap[b]? = some (.cells cs ty fr)
def putP (t : Int) (L : List Int) (m pb : Nat) (w : World) (e : Ending) (w' : World) : Prop := e = .returned (.tuple #[]) ∧ PB w' m pb (putT t L) ∧ Below m w w' ∧ KeptI w w'
theorem row_ins {xs cur : List Value} {n k : Nat} {z u : Value} (hx : xs.length = n) (hk : k ≤ n) (hc : cur.take (n + 1) = xs ++ [z]) : ((splice cur (k + 1) (xs.drop k)).set k u).take (n + 1) = xs.take k ++ u :: xs.drop k := by
  have hl : n + 1 ≤ cur.length := by
    have := congrArg List.length hc
    simp at this
    omega
  obtain ⟨tl, htl⟩ : ∃ tl, cur = xs ++ z :: tl := ⟨cur.drop (n + 1), by
    have h1 := (List.take_append_drop (n + 1) cur).symm
    rw [hc, List.append_assoc] at h1
    exact h1⟩
  subst htl
  unfold splice
  have e1 : (xs ++ z :: tl).drop (k + 1 + (xs.drop k).length) = tl := by
    rw [List.drop_append]
    have h2 : xs.drop (k + 1 + (xs.drop k).length) = [] := List.drop_eq_nil_of_le (by simp; omega)
    rw [h2]
    have h3 : k + 1 + (xs.drop k).length - xs.length = 1 := by simp; omega
    rw [h3]
    simp
  rw [e1]
  have e2 : ∃ y, (xs ++ z :: tl).take (k + 1) = xs.take k ++ [y] := by
    refine ⟨((xs ++ z :: tl)[k]?).getD z, ?_⟩
    rw [List.take_add_one]
    have h4 : (xs ++ z :: tl).take k = xs.take k := List.take_append_of_le_length (by omega)
    rw [h4]
    have h5 : k < (xs ++ z :: tl).length := by simp; omega
    rw [List.getElem?_eq_getElem h5]
    rfl
  obtain ⟨y, e2⟩ := e2
  rw [e2]
  have e3 : (xs.take k ++ [y] ++ (xs.drop k ++ tl)).set k u = xs.take k ++ u :: (xs.drop k ++ tl) := by
    have h6 : (xs.take k).length = k := by simp; omega
    rw [List.append_assoc]
    rw [List.set_append_right _ _ (by omega)]
    rw [h6]
    simp
  rw [e3]
  have e4 : xs.take k ++ u :: (xs.drop k ++ tl) = (xs.take k ++ u :: xs.drop k) ++ tl := by simp
  rw [e4]
  rw [List.take_append_of_le_length (by simp; omega)]
  exact List.take_of_length_le (by simp; omega)
theorem grown_setRow {w : World} {g : Nat} {cur cur' : Array Value} {t : TypeId} (hg : w.heap[g]? = some (.cells cur t (0, 0))) : w.grownBy (w.setRow g cur') (some g) := by
  refine ⟨rfl, rfl, rfl, by simp [World.setRow], fun k hk hne => ?_⟩
  unfold World.setRow
  rw [Array.getElem?_modify, if_neg (fun e => hne (by rw [e]))]
/-- a copy within a row, as one step of a region that draws: nothing but the row turns -/
theorem step_copy_g {P : Program} {ops : Array Oper} {o : Oper} {a : Act} {w : World} {K : Act → World → Prop} {Q : Exit → Act → World → Prop} {E : Prop} (hgd : o.guard = none) (d s : Operand) (dT sT : TypeId)
    (ho : o.op = .call { callee := .builtin .copy, args := #[d, s], argTypes := #[dT, sT] }) (elem : TypeId) (hu : P.underlying dT = some (.slice elem)) (hsz : (P.info? elem).map (·.size) = some 1)
    (dp sp : Option Addr) (dLen dCap sLen sCap : Nat) (hd : a.eval d = .slice dp dLen dCap) (hs : a.eval s = .slice sp sLen sCap)
    (g off : Nat) (cur : Array Value) (t : TypeId) (hg : w.heap[g]? = some (.cells cur t (0, 0))) (cs : List Value) (hn : cs.length = Nat.min sLen dLen)
    (hpos : 0 < cs.length → dp = some ⟨g, off, none⟩ ∧ ∃ ad, sp = some ad ∧ ∀ j v, cs[j]? = some v → w.cell? (ad.add j) = some v)
    (hfit : off + cs.length ≤ cur.size) (h1 : ∀ v ∈ cs, v.oneCell' = true)
    (h : ∀ w', Hid (w'.heap[g]? = some (.cells (splice cur.toList off cs).toArray t (0, 0))) → Hid (w.grownBy w' (some g)) → K (a.put o.dst (goInt cs.length)) w') :
    if Region.wanted o (yielded ops a.tmps) = true then Oper.wp P o a w K Q else E := by
  rw [if_pos (by simp [Region.wanted, hgd])]
  by_cases h0 : cs.length = 0
  · obtain rfl : cs = [] := List.eq_nil_of_length_eq_zero h0
    have hrun := run_copy_none (P := P) w dT sT o.type elem dp sp dLen dCap sLen sCap hu hsz (by simpa using hn.symm)
    unfold Oper.wp
    simp [execOp, ho, resolve, invoke, builtin, hd, hs, hrun, Result.andThen]
    exact h w (show _ = _ by simpa [splice] using hg) ⟨rfl, rfl, rfl, Nat.le_refl _, fun _ _ _ => rfl⟩
  · obtain ⟨rfl, ad, rfl, hsrc⟩ := hpos (by omega)
    have hrun := run_copy_row (P := P) w dT sT o.type elem g off dLen dCap ad sLen sCap cur t cs hu hsz hg hn hsrc hfit h1
    unfold Oper.wp
    simp [execOp, ho, resolve, invoke, builtin, hd, hs, hrun, Result.andThen]
    exact h _ (show _ = _ by simpa [splice] using setRow_heap w g _ _ t _ hg) (grown_setRow hg)
theorem keptI_row {w w' : World} {g : Nat} {cur : Array Value} (hg : w.heap[g]? = some (.cells cur 3)) (h : w.grownBy w' (some g)) : KeptI w w' := fun b cs ty fr hb h1 h2 => by
  refine heap_grown hb h fun e => ?_
  obtain rfl : b = g := by simpa using e
  rw [hb] at hg
  simp at hg
  exact h1 hg.2.1
theorem keptI_box {w : World} {pb : Nat} {v u : Value} (h : w.heap[pb]? = some (.cells #[v] 62)) : KeptI w (w.setCell ⟨pb, 0, none⟩ u) := fun b cs ty fr hb h1 h2 => by
  by_cases e : b = pb
  · subst e
    rw [h] at hb
    simp at hb
    exact absurd hb.2.1.symm h2
  · rw [Below.heap_setCell _ _ _ _ e]
    exact hb
theorem KeptI.trans {a b c : World} (h : KeptI a b) (k : KeptI b c) : KeptI a c := fun x cs ty fr hx h1 h2 => k x cs ty fr (h x cs ty fr hx h1 h2) h1 h2
theorem KeptI.refl (a : World) : KeptI a a := fun x cs ty fr hx h1 h2 => hx
theorem keptI_on {w w' : World} (h : Below w.heap.size w w') : KeptI w w' := fun b cs ty fr hb _ _ => heap_on hb h
theorem keptI_grown {w w' : World} {v : Value} {base n : Nat} {xs : List Value} (h : w.ownsRow base 3 1 v n xs) (hg : w.grownBy w' v.ownBlock) : KeptI w w' := fun b cs ty fr hb h1 h2 => by
  refine heap_grown hb hg fun e => ?_
  rcases h.2 with ⟨rfl, h0⟩ | ⟨g, cap, cur, rfl, _, hg2, _⟩
  · cases e
  · obtain rfl : b = g := by simpa [Value.ownBlock] using e
    rw [hb] at hg2
    simp at hg2
    exact h1 hg2.2.1
set_option maxRecDepth 100000 in
set_option maxHeartbeats 4000000 in
theorem put_c (t : Int) (L : List Int) (m pb : Nat) (w : World) (h : PB w m pb L) (hm : m ≤ pb) (hl : L.length ≤ 100000) :
    Calls Tryz.prog 36 #[.int .i64 t, .pointer (some ⟨pb, 0, none⟩)] w fun e w' => putP t L m pb w e w' := by
  obtain ⟨i0, hi, hz0, hz1, hz2⟩ := info_parts info_int
  have H0 := hideH h
  obtain ⟨v, hv, ho⟩ := h
  have HV := hideH hv
  have HO := hideH ho
  obtain ⟨a, c, rfl, hll, hnews⟩ := own_news ho
  have HN : Hid (∀ k, k < L.length → ∃ g, a = some ⟨g, 0, none⟩ ∧ ∀ j, j < L.length → w.cell? ⟨g, j, none⟩ = some (.int .i64 (L.getD j 0))) := fun k hk => by
    rcases HO.out.2 with ⟨e, h0⟩ | ⟨g, cap, cur, e, _⟩
    · omega
    · injection e with e1 e2 e3
      subst e1
      refine ⟨g, rfl, fun j hj => ?_⟩
      have := HO.out
      rw [show c = cap from e3] at this
      rw [this.cellAt j (by omega), List.getElem?_map, List.getElem?_eq_getElem hj]
      simp [hj]
  have c0 := cell_of_one hv
  clear hv ho hll hnews
  by_cases ht : 0 ≤ t ∧ t ≤ 1893455999
  · have hin := in_mk ht
    obtain ⟨N, hN⟩ : ∃ N, N = L.length := ⟨_, rfl⟩
    have HNl := hideH hN
    rw [← hN] at hl HO HV HN c0
    have HG : Hid (∀ k, k ≤ N → (∀ i, i < k → L.getD i 0 < t) → (∀ h : k < N, ¬ L.getD k 0 < t) → (k < N → L.getD k 0 ≠ t) → putT t L = L.take k ++ t :: L.drop k) := fun k h1 h2 h3 h4 => by
      rw [hN] at h1 h3 h4
      unfold putT
      rw [if_pos ht, insT_at t L k h1 (fun i hi hik => by have := h2 i hik; simpa [hi] using this) (fun h => by have := h3 h; simpa [h] using this), if_neg]
      rintro ⟨h, e⟩
      exact h4 h (by simpa [h] using e)
    have HS : Hid (∀ k, k < N → (∀ i, i < k → L.getD i 0 < t) → L.getD k 0 = t → putT t L = L) := fun k h1 h2 h3 => by
      rw [hN] at h1
      unfold putT
      rw [if_pos ht, insT_at t L k (by omega) (fun i hi hik => by have := h2 i hik; simpa [hi] using this) (fun h => by rw [show L[k] = t by simpa [h] using h3]; exact Int.lt_irrefl _), if_pos]
      exact ⟨h1, by simpa [h1] using h3⟩
    clear hN ht
    go_enter Tryz.func36, Tryz.ntmps36
    go_wp2_with (go_at_call 22; refine (isTime_c _ _).mono ?_; rintro e w ⟨rfl, rfl⟩)
    go_loopw [3] (fun x3 v => ∃ k : Nat, k ≤ N ∧ x3 = .int .i64 k ∧ w = v ∧ Hid (∀ i, i < k → L.getD i 0 < t)) (fun x3 _ => N - (intOf x3).toNat)
    case atStart => exact ⟨0, Nat.zero_le _, rfl, rfl, fun i hi => by omega⟩
    case round =>
      obtain ⟨k, hk, rfl, rfl, HA⟩ := hrel
      rcases (show (k < N ∧ L.getD k 0 < t) ∨ (k < N ∧ L.getD k 0 = t) ∨ (k < N ∧ t < L.getD k 0) ∨ k = N by omega) with ⟨h1, h2⟩ | ⟨h1, h2⟩ | ⟨h1, h2⟩ | h1
      · obtain ⟨g, rfl, hcs⟩ := HN.out k h1
        have ck := hcs k h1
        have hk0 : decide ((k : Int) < 0) = false := by simp
        have hkn : decide (N ≤ k) = false := by simp; omega
        have HA2 : Hid (∀ i, i < k + 1 → L.getD i 0 < t) := fun i hi => by
          rcases Nat.lt_or_ge i k with h | h
          · exact HA.out i h
          · obtain rfl : i = k := by omega
            exact h2
        generalize L.getD k 0 = x at ck h2
        clear hcs
        go_wp2_with fail
        go_roundw
        case rel => exact ⟨k + 1, by omega, by go_num, trivial, HA2⟩
        case measure => simp [intOf]; omega
      · obtain ⟨g, rfl, hcs⟩ := HN.out k h1
        have ck := hcs k h1
        rw [h2] at ck
        have hk0 : decide ((k : Int) < 0) = false := by simp
        have hkn : decide (N ≤ k) = false := by simp; omega
        have hkN : ((k : Int) == (N : Int)) = false := beq_eq_false_iff_ne.2 (by omega)
        have HX := hideH (HS.out k h1 HA.out h2)
        clear hcs h2
        go_wp2_with fail
        go_end0
        refine ⟨rfl, ?_, Below.refl _ _, KeptI.refl _⟩
        rw [HX.out]
        exact H0.out
      · obtain ⟨g, rfl, hcs⟩ := HN.out k h1
        have ck := hcs k h1
        have hk0 : decide ((k : Int) < 0) = false := by simp
        have hkn : decide (N ≤ k) = false := by simp; omega
        have hkN : ((k : Int) == (N : Int)) = false := beq_eq_false_iff_ne.2 (by omega)
        have HX := hideH (HG.out k hk HA.out (fun _ => by omega) (fun _ => by omega))
        have hkt : (L.getD k 0 != t) = true := by rw [bne_iff_ne]; omega
        have hkl : ¬ (L.getD k 0 < t) := by omega
        generalize L.getD k 0 = x at ck hkt hkl
        clear hcs h2
        have bs := (Below.refl _ w).alloc (Nat.le_refl _) (.cells #[.int .i64 0] 3)
        have O2 := hideH (own_onT HO.out bs)
        have V2 := hideH (heap_on HV.out bs)
        have KB2 := hideH (keptI_on bs)
        have hpl : pb < w.heap.size := (Array.getElem?_eq_some_iff.1 HV.out).1
        have BB2 := hideH ((Below.refl m w).alloc (by omega) (.cells #[.int .i64 0] 3))
        clear bs
        go_wp2_with (at_builtin; refine wpList_append_lies _ rfl _ _ 62 rfl m 3 i0 (.int .i64 0) 1 8 Tryz.underlying62 hi hz0 hz1 hz2 rfl (by decide) _ _ _ rfl O2.out ⟨w.heap.size, 0, none⟩ 1 1 [.int .i64 0] rfl rfl (cell_one_new _ _ _) (by simp [Value.oneCell']) (by decide) (by unfold maxLen; omega) (by omega) (by simp; omega) _ rfl ?_; intro g5 q5 w5 hown5 hgrow5 hat5 hl5; refine Hid.out ?_)
        have G5 : Hid ((w.alloc (.cells #[.int .i64 0] 3)).grownBy w5 (Value.slice (some ⟨g, 0, none⟩) N c).ownBlock) := hgrow5
        have O5 := hideH hown5
        clear hown5 hgrow5 hat5 hl5
        have B5 := hideH (BB2.out.grown G5.out (by have := BB2.out.size; omega) (fun q hq => (own_lt O2.out hq).1))
        have K5 := hideH (KB2.out.trans (keptI_grown O2.out G5.out))
        have V5 : Hid (w5.heap[pb]? = some (.cells #[.slice (some ⟨g, 0, none⟩) N c] 62)) := heap_grown V2.out G5.out (fun e => by
          rcases O2.out.2 with ⟨e2, _⟩ | ⟨g, cap, cur, e2, _, hg2, _⟩
          · rw [e2] at e; cases e
          · rw [e2] at e
            obtain rfl : pb = g := by simpa [Value.ownBlock] using e
            have := V2.out
            rw [hg2] at this
            simp at this)
        clear KB2 BB2 G5 O2 V2
        have v5 := cell_of_one V5.out
        have z5 := free_of_one V5.out
        refine hideH ?_
        go_upto_region 6 with fail
        obtain ⟨w6, hw6⟩ : ∃ w6, w6 = w5.setCell ⟨pb, 0, none⟩ (.slice (some ⟨g5, 0, none⟩) (N + 1) q5) := ⟨_, rfl⟩
        simp only [← hw6]
        have V6 : Hid (w6.heap[pb]? = some (.cells #[.slice (some ⟨g5, 0, none⟩) (N + 1) q5] 62)) := by show _ = _; rw [hw6]; exact one_setCell V5.out
        have K6 : Hid (KeptI w w6) := by show KeptI _ _; rw [hw6]; exact K5.out.trans (keptI_box V5.out)
        have B6 : Hid (Below m w w6) := by show Below _ _ _; rw [hw6]; exact B5.out.setCell (p := ⟨pb, 0, none⟩) hm _
        have O6 : Hid (w6.ownsRow m 3 1 (.slice (some ⟨g5, 0, none⟩) (N + 1) q5) (N + 1) (L.map encI ++ [.int .i64 0])) := by
          show World.ownsRow _ _ _ _ _ _ _
          rw [hw6]
          refine ownsRow_setCell_other O5.out (fun e => ?_) _
          rcases O5.out.2 with ⟨e2, _⟩ | ⟨g, cap, cur, e2, _, hg2, _⟩
          · cases e2
          · injection e2 with e3
            obtain rfl : g5 = pb := by simpa [Value.ownBlock] using e
            obtain rfl : g5 = g := by simpa using e3
            have := V5.out
            rw [hg2] at this
            simp at this
        clear v5 z5 c0 V5 K5 B5 O5 hw6
        rcases O6.out.2 with ⟨e2, _⟩ | ⟨g, cap, cur, e2, hmg, hg6, hn6, hm6, hs6, ht6⟩
        · cases e2
        obtain ⟨rfl, rfl⟩ : g5 = g ∧ q5 = cap := by simpa using e2
        have v6 := cell_of_one V6.out
        have HG6 := hideH hg6
        have HT6 := hideH ht6
        have hNl := HNl.out
        have C6 : Hid (∀ j, j < N + 1 → w6.cell? ⟨g5, j, none⟩ = (L.map encI ++ [.int .i64 0])[j]?) := fun j hj => O6.out.cellAt j (by omega)
        clear e2 hg6 ht6
        have hw1 : IntKind.i64.wrap ((k : Int) + 1) = (k : Int) + 1 := wrap_nnT (by omega) (by omega)
        have a1 : ¬ ((k : Int) + 1 < 0) := by omega
        have a4 : ((k : Int) + 1).toNat = k + 1 := by omega
        have a5 : 0 ≤ (k : Int) + 1 := by omega
        have a2 : ¬ ((N : Int) + 1 < (k : Int) + 1) := by omega
        have a3 : (k : Int) + 1 ≤ (N : Int) + 1 := by omega
        have a6 : (k : Int) ≤ (N : Int) + 1 := by omega
        have a7 : ¬ ((N : Int) + 1 < (k : Int)) := by omega
        have hsz : (Tryz.prog.info? 3).map (·.size) = some 1 := by rw [hi]; simp [hz1]
        obtain ⟨X, hX⟩ : ∃ X, X = (L.drop k).map encI := ⟨_, rfl⟩
        have hXl : X.length = N - k := by rw [hX, List.length_map, List.length_drop, ← hNl]
        have P6 : Hid (0 < X.length → (if q5 = k + 1 then some (⟨g5, 0, none⟩ : Addr) else some ⟨g5, k + 1, none⟩) = some ⟨g5, k + 1, none⟩ ∧ ∃ ad, (if q5 = k then some (⟨g5, 0, none⟩ : Addr) else some ⟨g5, k, none⟩) = some ad ∧ ∀ j v, X[j]? = some v → w6.cell? (ad.add j) = some v) := fun h => by
          refine ⟨if_neg (by omega), ⟨g5, k, none⟩, if_neg (by omega), fun j v hj => ?_⟩
          have hjl : j < X.length := (List.getElem?_eq_some_iff.1 hj).1
          have hadd : (⟨g5, k, none⟩ : Addr).add j = ⟨g5, k + j, none⟩ := by unfold Addr.add; split <;> simp_all
          rw [hadd, C6.out (k + j) (by omega), List.getElem?_append_left (by simp; omega)]
          rw [hX, List.getElem?_map, List.getElem?_drop] at hj
          rw [List.getElem?_map]
          exact hj
        have F6 : Hid (k + 1 + X.length ≤ cur.size) := by show _ ≤ _; omega
        have E6 : Hid (∀ v ∈ X, v.oneCell' = true) := by rw [hX]; exact encI_one _
        have N6 : Hid (X.length = Nat.min (N + 1 - k) (N - k)) := by show _ = Nat.min _ _; rw [hXl]; simp only [Nat.min_def]; split <;> omega
        have HXl := hideH hXl
        have HXe := hideH hX
        clear hX hXl hNl
        go_region_law (refine step_copy_g rfl (.tmp 39) (.tmp 42) 62 62 rfl 3 Tryz.underlying62 hsz _ _ (N - k) (q5 - (k + 1)) (N + 1 - k) (q5 - k) (by simp [Act.eval, Act.put]) (by simp [Act.eval, Act.put]) g5 (k + 1) cur 3 HG6.out X N6.out P6.out F6.out E6.out ?_; intro w7 hg7 hb7)
        all_goals
          have V7 : Hid (w7.heap[pb]? = some (.cells #[.slice (some ⟨g5, 0, none⟩) (N + 1) q5] 62)) := heap_grown (w := w6.drew) V6.out hb7.out (fun e => by
            obtain rfl : pb = g5 := by simpa using e
            have := V6.out
            rw [HG6.out] at this
            simp at this)
          have K7 : Hid (KeptI w w7) := (show KeptI w w6.drew from K6.out).trans (keptI_row (w := w6.drew) HG6.out hb7.out)
          have B7 : Hid (Below m w w7) := B6.out.drew.grown hb7.out (by have := B6.out.size; show m ≤ w6.heap.size; omega) (fun q hq => by
            obtain rfl : g5 = q := by simpa using hq
            exact hmg)
          have v7 := cell_of_one V7.out
          have hsl : (splice cur.toList (k + 1) X).length = cur.size := by rw [length_splice _ _ _ (by simpa using F6.out)]; simp
          have hk7 : k < (splice cur.toList (k + 1) X).length := by omega
          have c7 : w7.cell? ⟨g5, k, none⟩ = some ((splice cur.toList (k + 1) X)[k]) := by simp [World.cell?, hg7.out, hk7]
          have f7 : w7.frozen? ⟨g5, k, none⟩ = false := by simp [World.frozen?, hg7.out]
          generalize (splice cur.toList (k + 1) X)[k] = y7 at c7
          have HR := hideH (row_ins (u := .int .i64 t) (xs := L.map encI) (cur := cur.toList) (n := N) (k := k) (z := .int .i64 0) (by rw [List.length_map, ← HNl.out]) (by omega) (by have := HT6.out; rwa [Nat.mul_one] at this))
          have hl7 : g5 < w7.heap.size := (Array.getElem?_eq_some_iff.1 hg7.out).1
          have hsq : cur.size = q5 * 1 := hs6
          have HSl := hideH hsl
          clear hsl hk7
          try generalize (if q5 = k + 1 then some (⟨g5, 0, none⟩ : Addr) else some ⟨g5, k + 1, none⟩) = A1
          try generalize (if q5 = k then some (⟨g5, 0, none⟩ : Addr) else some ⟨g5, k, none⟩) = A2
          go_wp2_with fail
          go_end0
          have hne : pb ≠ g5 := fun e => by
            have := V7.out
            rw [e, hg7.out] at this
            simp at this
          refine ⟨rfl, ⟨.slice (some ⟨g5, 0, none⟩) (N + 1) q5, ?_, ?_⟩, B7.out.setCell (p := ⟨g5, k, none⟩) hmg _, fun b cs ty fr hb h1 h2 => ?_⟩
          · rw [Below.heap_setCell _ _ _ _ hne]
            exact V7.out
          · have hlen : (L.take k ++ t :: L.drop k).length = N + 1 := by have hNl := HNl.out; simp; omega
            rw [HX.out, hlen]
            refine ⟨by rw [List.length_map, hlen, Nat.mul_one], .inr ⟨g5, q5, _, rfl, hmg, setCell_at hg7.out _, hn6, hm6, ?_, ?_⟩⟩
            · rw [Array.size_setIfInBounds]
              show (splice cur.toList (k + 1) X).length = _
              rw [HSl.out, hsq]
            · rw [Nat.mul_one, Array.toList_setIfInBounds]
              have hR := HR.out
              rw [← List.map_drop, ← HXe.out] at hR
              show ((splice cur.toList (k + 1) X).set k _).take _ = _
              rw [hR, List.map_append, List.map_cons, ← HXe.out, List.map_take]
          · have h3 := K7.out b cs ty fr hb h1 h2
            rw [Below.heap_setCell _ _ _ _ (fun e => by
              rw [e, hg7.out] at h3
              simp at h3
              exact h1 h3.2.1.symm)]
            exact h3
      · subst h1
        have hkN : ((k : Int) == (k : Int)) = true := by simp
        have HX := hideH (HG.out k (Nat.le_refl _) HA.out (fun h => absurd h (Nat.lt_irrefl _)) (fun h => absurd h (Nat.lt_irrefl _)))
        have bs := (Below.refl _ w).alloc (Nat.le_refl _) (.cells #[.int .i64 0] 3)
        have O2 := hideH (own_onT HO.out bs)
        have V2 := hideH (heap_on HV.out bs)
        have KB2 := hideH (keptI_on bs)
        have hpl : pb < w.heap.size := (Array.getElem?_eq_some_iff.1 HV.out).1
        have BB2 := hideH ((Below.refl m w).alloc (by omega) (.cells #[.int .i64 0] 3))
        clear bs
        go_wp2_with (at_builtin; refine wpList_append_lies _ rfl _ _ 62 rfl m 3 i0 (.int .i64 0) 1 8 Tryz.underlying62 hi hz0 hz1 hz2 rfl (by decide) _ _ _ rfl O2.out ⟨w.heap.size, 0, none⟩ 1 1 [.int .i64 0] rfl rfl (cell_one_new _ _ _) (by simp [Value.oneCell']) (by decide) (by unfold maxLen; omega) (by omega) (by simp; omega) _ rfl ?_; intro g5 q5 w5 hown5 hgrow5 hat5 hl5; refine Hid.out ?_)
        have G5 : Hid ((w.alloc (.cells #[.int .i64 0] 3)).grownBy w5 (Value.slice a k c).ownBlock) := hgrow5
        have O5 := hideH hown5
        clear hown5 hgrow5 hat5 hl5
        have B5 := hideH (BB2.out.grown G5.out (by have := BB2.out.size; omega) (fun q hq => (own_lt O2.out hq).1))
        have K5 := hideH (KB2.out.trans (keptI_grown O2.out G5.out))
        have V5 : Hid (w5.heap[pb]? = some (.cells #[.slice a k c] 62)) := heap_grown V2.out G5.out (fun e => by
          rcases O2.out.2 with ⟨e2, _⟩ | ⟨g, cap, cur, e2, _, hg2, _⟩
          · rw [e2] at e; cases e
          · rw [e2] at e
            obtain rfl : pb = g := by simpa [Value.ownBlock] using e
            have := V2.out
            rw [hg2] at this
            simp at this)
        clear KB2 BB2 G5 O2 V2
        have v5 := cell_of_one V5.out
        have z5 := free_of_one V5.out
        refine hideH ?_
        go_upto_region 6 with fail
        obtain ⟨w6, hw6⟩ : ∃ w6, w6 = w5.setCell ⟨pb, 0, none⟩ (.slice (some ⟨g5, 0, none⟩) (k + 1) q5) := ⟨_, rfl⟩
        simp only [← hw6]
        have V6 : Hid (w6.heap[pb]? = some (.cells #[.slice (some ⟨g5, 0, none⟩) (k + 1) q5] 62)) := by show _ = _; rw [hw6]; exact one_setCell V5.out
        have K6 : Hid (KeptI w w6) := by show KeptI _ _; rw [hw6]; exact K5.out.trans (keptI_box V5.out)
        have B6 : Hid (Below m w w6) := by show Below _ _ _; rw [hw6]; exact B5.out.setCell (p := ⟨pb, 0, none⟩) hm _
        have O6 : Hid (w6.ownsRow m 3 1 (.slice (some ⟨g5, 0, none⟩) (k + 1) q5) (k + 1) (L.map encI ++ [.int .i64 0])) := by
          show World.ownsRow _ _ _ _ _ _ _
          rw [hw6]
          refine ownsRow_setCell_other O5.out (fun e => ?_) _
          rcases O5.out.2 with ⟨e2, _⟩ | ⟨g, cap, cur, e2, _, hg2, _⟩
          · cases e2
          · injection e2 with e3
            obtain rfl : g5 = pb := by simpa [Value.ownBlock] using e
            obtain rfl : g5 = g := by simpa using e3
            have := V5.out
            rw [hg2] at this
            simp at this
        clear v5 z5 c0 V5 K5 B5 O5 hw6
        rcases O6.out.2 with ⟨e2, _⟩ | ⟨g, cap, cur, e2, hmg, hg6, hn6, hm6, hs6, ht6⟩
        · cases e2
        obtain ⟨rfl, rfl⟩ : g5 = g ∧ q5 = cap := by simpa using e2
        have v6 := cell_of_one V6.out
        have HG6 := hideH hg6
        have HT6 := hideH ht6
        have hNl := HNl.out
        have C6 : Hid (∀ j, j < k + 1 → w6.cell? ⟨g5, j, none⟩ = (L.map encI ++ [.int .i64 0])[j]?) := fun j hj => O6.out.cellAt j (by omega)
        clear e2 hg6 ht6
        have hw1 : IntKind.i64.wrap ((k : Int) + 1) = (k : Int) + 1 := wrap_nnT (by omega) (by omega)
        have a1 : ¬ ((k : Int) + 1 < 0) := by omega
        have a4 : ((k : Int) + 1).toNat = k + 1 := by omega
        have a5 : 0 ≤ (k : Int) + 1 := by omega
        have a2 : ¬ (((k + 1 : Nat) : Int) < (k : Int) + 1) := by omega
        have a3 : (k : Int) + 1 ≤ ((k + 1 : Nat) : Int) := by omega
        have a6 : (k : Int) ≤ (k : Int) + 1 := by omega
        have hsz : (Tryz.prog.info? 3).map (·.size) = some 1 := by rw [hi]; simp [hz1]
        obtain ⟨X, hX⟩ : ∃ X, X = (L.drop k).map encI := ⟨_, rfl⟩
        have hXl : X.length = k - k := by rw [hX, List.length_map, List.length_drop, ← hNl]
        have P6 : Hid (0 < X.length → (if q5 = k + 1 then some (⟨g5, 0, none⟩ : Addr) else some ⟨g5, k + 1, none⟩) = some ⟨g5, k + 1, none⟩ ∧ ∃ ad, (if q5 = k then some (⟨g5, 0, none⟩ : Addr) else some ⟨g5, k, none⟩) = some ad ∧ ∀ j v, X[j]? = some v → w6.cell? (ad.add j) = some v) := fun h => by
          refine ⟨if_neg (by omega), ⟨g5, k, none⟩, if_neg (by omega), fun j v hj => ?_⟩
          have hjl : j < X.length := (List.getElem?_eq_some_iff.1 hj).1
          have hadd : (⟨g5, k, none⟩ : Addr).add j = ⟨g5, k + j, none⟩ := by unfold Addr.add; split <;> simp_all
          rw [hadd, C6.out (k + j) (by omega), List.getElem?_append_left (by simp; omega)]
          rw [hX, List.getElem?_map, List.getElem?_drop] at hj
          rw [List.getElem?_map]
          exact hj
        have F6 : Hid (k + 1 + X.length ≤ cur.size) := by show _ ≤ _; omega
        have E6 : Hid (∀ v ∈ X, v.oneCell' = true) := by rw [hX]; exact encI_one _
        have N6 : Hid (X.length = Nat.min 1 0) := by show _ = Nat.min _ _; rw [hXl]; simp only [Nat.min_def]; split <;> omega
        have HXl := hideH hXl
        have HXe := hideH hX
        clear hX hXl hNl
        go_region_law (refine step_copy_g rfl (.tmp 39) (.tmp 42) 62 62 rfl 3 Tryz.underlying62 hsz _ _ 0 (q5 - (k + 1)) 1 (q5 - k) (by simp [Act.eval, Act.put]) (by simp [Act.eval, Act.put]) g5 (k + 1) cur 3 HG6.out X N6.out P6.out F6.out E6.out ?_; intro w7 hg7 hb7)
        all_goals
          have V7 : Hid (w7.heap[pb]? = some (.cells #[.slice (some ⟨g5, 0, none⟩) (k + 1) q5] 62)) := heap_grown (w := w6.drew) V6.out hb7.out (fun e => by
            obtain rfl : pb = g5 := by simpa using e
            have := V6.out
            rw [HG6.out] at this
            simp at this)
          have K7 : Hid (KeptI w w7) := (show KeptI w w6.drew from K6.out).trans (keptI_row (w := w6.drew) HG6.out hb7.out)
          have B7 : Hid (Below m w w7) := B6.out.drew.grown hb7.out (by have := B6.out.size; show m ≤ w6.heap.size; omega) (fun q hq => by
            obtain rfl : g5 = q := by simpa using hq
            exact hmg)
          have v7 := cell_of_one V7.out
          have hsl : (splice cur.toList (k + 1) X).length = cur.size := by rw [length_splice _ _ _ (by simpa using F6.out)]; simp
          have hk7 : k < (splice cur.toList (k + 1) X).length := by omega
          have c7 : w7.cell? ⟨g5, k, none⟩ = some ((splice cur.toList (k + 1) X)[k]) := by simp [World.cell?, hg7.out, hk7]
          have f7 : w7.frozen? ⟨g5, k, none⟩ = false := by simp [World.frozen?, hg7.out]
          generalize (splice cur.toList (k + 1) X)[k] = y7 at c7
          have HR := hideH (row_ins (u := .int .i64 t) (xs := L.map encI) (cur := cur.toList) (n := k) (k := k) (z := .int .i64 0) (by rw [List.length_map, ← HNl.out]) (by omega) (by have := HT6.out; rwa [Nat.mul_one] at this))
          have hl7 : g5 < w7.heap.size := (Array.getElem?_eq_some_iff.1 hg7.out).1
          have hsq : cur.size = q5 * 1 := hs6
          have HSl := hideH hsl
          clear hsl hk7
          try generalize (if q5 = k + 1 then some (⟨g5, 0, none⟩ : Addr) else some ⟨g5, k + 1, none⟩) = A1
          try generalize (if q5 = k then some (⟨g5, 0, none⟩ : Addr) else some ⟨g5, k, none⟩) = A2
          go_wp2_with fail
          go_end0
          have hne : pb ≠ g5 := fun e => by
            have := V7.out
            rw [e, hg7.out] at this
            simp at this
          refine ⟨rfl, ⟨.slice (some ⟨g5, 0, none⟩) (k + 1) q5, ?_, ?_⟩, B7.out.setCell (p := ⟨g5, k, none⟩) hmg _, fun b cs ty fr hb h1 h2 => ?_⟩
          · rw [Below.heap_setCell _ _ _ _ hne]
            exact V7.out
          · have hlen : (L.take k ++ t :: L.drop k).length = k + 1 := by have hNl := HNl.out; simp; omega
            rw [HX.out, hlen]
            refine ⟨by rw [List.length_map, hlen, Nat.mul_one], .inr ⟨g5, q5, _, rfl, hmg, setCell_at hg7.out _, hn6, hm6, ?_, ?_⟩⟩
            · rw [Array.size_setIfInBounds]
              show (splice cur.toList (k + 1) X).length = _
              rw [HSl.out, hsq]
            · rw [Nat.mul_one, Array.toList_setIfInBounds]
              have hR := HR.out
              rw [← List.map_drop, ← HXe.out] at hR
              show ((splice cur.toList (k + 1) X).set k _).take _ = _
              rw [hR, List.map_append, List.map_cons, ← HXe.out, List.map_take]
          · have h3 := K7.out b cs ty fr hb h1 h2
            rw [Below.heap_setCell _ _ _ _ (fun e => by
              rw [e, hg7.out] at h3
              simp at h3
              exact h1 h3.2.1.symm)]
            exact h3
  · have hin := in_not ht
    go_enter Tryz.func36, Tryz.ntmps36
    go_wp2_with (go_at_call 22; refine (isTime_c _ _).mono ?_; rintro e w ⟨rfl, rfl⟩)
    go_end0
    refine ⟨rfl, ?_, Below.refl _ _, KeptI.refl _⟩
    unfold putT
    rw [if_neg ht]
    exact H0.out
end Go.Proofs.YtdffopkljomipaaGreatDoor
