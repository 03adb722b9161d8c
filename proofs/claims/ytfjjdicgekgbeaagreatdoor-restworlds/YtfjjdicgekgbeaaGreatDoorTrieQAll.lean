/- Plain facts for TrieTrue and TrieOrder. -/
import Derived.Test.YtfjjdicgekgbeaaGreatDoorTrieGAll
import Derived.Deep.RegionHeld3
import Derived.Deep.QuietTactic
import Derived.BigQuiet
import Derived.Deep.AppendLies
import Derived.Laws.OwnMore
namespace Go.Proofs.YtfjjdicgekgbeaaGreatDoor.Tri
open Go Go.RowKit Go.Maps
set_option linter.unusedVariables false

theorem tl (a : ByteArray) : a.toList = a.data.toList := ByteArray.toList_eq a
/-- does a text begin with a word? -/
def isPre (s x : ByteArray) : Prop := x.size ≤ s.size ∧ s.data.toList.take x.size = x.data.toList
/-- the longest one of the first k words -/
def bst (s : ByteArray) (ss : Nat → ByteArray) : Nat → Nat
  | 0 => 0
  | k + 1 => if decide ((ss k).size ≤ s.size) && (s.data.toList.take (ss k).size == (ss k).data.toList) then max (bst s ss k) (ss k).size else bst s ss k
theorem pre_iff (s x : ByteArray) : (decide (x.size ≤ s.size) && (s.data.toList.take x.size == x.data.toList)) = true ↔ isPre s x := by
  unfold isPre
  simp
theorem bst_yes {s : ByteArray} {ss : Nat → ByteArray} {k : Nat} (h : isPre s (ss k)) : bst s ss (k + 1) = max (bst s ss k) (ss k).size := by
  rw [bst, if_pos ((pre_iff _ _).2 h)]
theorem bst_no {s : ByteArray} {ss : Nat → ByteArray} {k : Nat} (h : ¬ isPre s (ss k)) : bst s ss (k + 1) = bst s ss k := by
  rw [bst, if_neg (fun e => h ((pre_iff _ _).1 e))]
theorem bst_mono (s : ByteArray) (ss : Nat → ByteArray) : ∀ {j k : Nat}, j ≤ k → bst s ss j ≤ bst s ss k
  | j, 0, h => by obtain rfl : j = 0 := by omega
                  exact Nat.le_refl _
  | j, k + 1, h => by
    by_cases e : j = k + 1
    · rw [e]; exact Nat.le_refl _
    · have := bst_mono s ss (j := j) (k := k) (by omega)
      by_cases hp : isPre s (ss k)
      · rw [bst_yes hp]; omega
      · rw [bst_no hp]; exact this
theorem bst_le {n : Nat} {ss : Nat → ByteArray} (h0 : bldE n ss = 0) (s : ByteArray) : ∀ k, k ≤ n → bst s ss k ≤ (longR (trI n ss) s).2
  | 0, _ => Nat.zero_le _
  | k + 1, hk => by
    have ih := bst_le h0 s k (by omega)
    by_cases hp : isPre s (ss k)
    · rw [bst_yes hp]
      have f := long_facts h0 s
      have : (ss k).size ≤ (longR (trI n ss) s).2 := by
        rcases Nat.lt_or_ge (longR (trI n ss) s).2 (ss k).size with h | h
        · have h1 := f.more _ h hp.1
          have h2 : 0 ≤ fwW n ss (s.data.toList.take (ss k).size) := (fw_iff _ _ _).2 ⟨k, by omega, by rw [wo_wl (by omega), hp.2]⟩
          omega
        · exact h
      omega
    · rw [bst_no hp]; exact ih
/-- what the longest one is -/
theorem long_word {n : Nat} {ss : Nat → ByteArray} (h0 : bldE n ss = 0) (s : ByteArray) : ((longR (trI n ss) s).1 = -1 ∧ (longR (trI n ss) s).2 = 0) ∨ ∃ j : Nat, j < n ∧ (longR (trI n ss) s).1 = j ∧ (ss j).data.toList = s.data.toList.take (longR (trI n ss) s).2 ∧ 0 < (longR (trI n ss) s).2 := by
  have f := long_facts h0 s
  rcases fw_spec (wl n ss) (s.data.toList.take (longR (trI n ss) s).2) n with ⟨h1, _⟩ | ⟨j, h1, h2, h3, _⟩
  · left
    have h2 : (longR (trI n ss) s).1 = -1 := by rw [f.at_]; exact h1
    exact ⟨h2, f.iff.1 h2⟩
  · right
    rw [wo_wl h2] at h3
    have h4 : (longR (trI n ss) s).1 = j := by rw [f.at_]; exact h1
    refine ⟨j, h2, h4, h3, ?_⟩
    rcases Nat.eq_zero_or_pos (longR (trI n ss) s).2 with h | h
    · have := f.iff.2 h; omega
    · exact h
theorem bst_all {n : Nat} {ss : Nat → ByteArray} (h0 : bldE n ss = 0) (s : ByteArray) : bst s ss n = (longR (trI n ss) s).2 := by
  have f := long_facts h0 s
  have h1 := bst_le h0 s n (Nat.le_refl _)
  rcases long_word h0 s with ⟨_, h⟩ | ⟨j, hj, _, h3, h4⟩
  · omega
  · have hs : (ss j).size = (longR (trI n ss) s).2 := by
      rw [← sz_len, h3, List.length_take, sz_len]; have := f.le; omega
    have hp : isPre s (ss j) := ⟨by rw [hs]; exact f.le, by rw [hs]; exact h3.symm⟩
    have h5 := bst_mono s ss (j := j + 1) (k := n) (by omega)
    rw [bst_yes hp] at h5
    omega
theorem bst_bd {n : Nat} {ss : Nat → ByteArray} (h0 : bldE n ss = 0) (s : ByteArray) (k : Nat) (hk : k ≤ n) : bst s ss k ≤ s.size := Nat.le_trans (bst_le h0 s k hk) (long_facts h0 s).le
theorem fw_step (n : Nat) (ss : Nat → ByteArray) (k : Nat) (hk : k < n) (p : List UInt8) : fw (wl n ss) (k + 1) p = if fw (wl n ss) k p = -1 then (if (ss k).data.toList = p then (k : Int) else -1) else fw (wl n ss) k p := by
  rw [fw, wo_wl hk]
theorem fw_lt (n : Nat) (ss : Nat → ByteArray) (k : Nat) (p : List UInt8) : fw (wl n ss) k p < k := by
  rcases fw_spec (wl n ss) p k with ⟨h, _⟩ | ⟨j, h, h2, _⟩ <;> omega
/-- where a word of the list is found -/
theorem fw_of {n : Nat} (ss : Nat → ByteArray) {y : Nat} (hy : y < n) : ∃ z : Nat, z ≤ y ∧ fwW n ss (ss y).data.toList = z ∧ (ss z).data.toList = (ss y).data.toList := by
  rcases fw_spec (wl n ss) (ss y).data.toList n with ⟨_, h⟩ | ⟨j, h1, h2, h3, h4⟩
  · exact absurd (wo_wl hy) (h y hy)
  · refine ⟨j, ?_, h1, by rw [← wo_wl h2]; exact h3⟩
    rcases Nat.lt_or_ge y j with h | h
    · exact absurd (wo_wl hy) (h4 y h)
    · exact h
end Go.Proofs.YtfjjdicgekgbeaaGreatDoor.Tri

/- The document's own: within, BuildError, edgeOf, CheckTrie. -/
namespace Go.Proofs.YtfjjdicgekgbeaaGreatDoor.Tri
open Go Go.RowKit Go.Maps
set_option linter.unusedVariables false

theorem within_c (x lo hi : Int) (w : World) : Calls Tryz.prog 26 #[.int .i64 x, .int .i64 lo, .int .i64 hi] w fun e w' => e = .returned (.bool (decide (lo ≤ x ∧ x ≤ hi))) ∧ w' = w := by
  by_cases h1 : lo ≤ x
  · by_cases h2 : x ≤ hi
    · go_enter Tryz.func26, Tryz.ntmps26
      go_wp2
      go_ret
      exact ⟨ret_bool (by simp [h1, h2]), rfl⟩
    · go_enter Tryz.func26, Tryz.ntmps26
      go_wp2
      go_ret
      exact ⟨ret_bool (by simp; omega), rfl⟩
  · go_enter Tryz.func26, Tryz.ntmps26
    go_wp2
    go_ret
    exact ⟨ret_bool (by simp; omega), rfl⟩
theorem within_b (x lo hi : Int) (B : Bool) (h : decide (lo ≤ x ∧ x ≤ hi) = B) (w : World) : Calls Tryz.prog 26 #[.int .i64 x, .int .i64 lo, .int .i64 hi] w fun e w' => e = .returned (.bool B) ∧ w' = w := by
  rw [← h]; exact within_c x lo hi w
set_option maxHeartbeats 4000000 in
theorem BuildError_c (a : Option Addr) (n c : Nat) (ss : Nat → ByteArray) (w : World) (hn : n ≤ maxLen) (hP : TxA w a n ss) (hf : ∀ j, j < n → (ss j).size ≤ maxLen) :
    Calls Tryz.prog 10 #[.slice a n c] w fun e w' => ckP (bldE n ss) w e w' := by
  have HP := hideH hP
  have HF := hideH hf
  unfold maxLen at hn
  clear hP hf
  by_cases h40 : 40 < n
  · have h40i : (40 : Int) < (n : Int) := by omega
    have HE := hideH (bldE_many ss h40)
    go_enter Tryz.func10, Tryz.ntmps10
    go_wp2_with fail
    go_ret
    unfold ckP
    exact ⟨ret_int HE.out.symm, Below.refl _ _⟩
  · have h40i : ¬ ((40 : Int) < (n : Int)) := by omega
    go_enter Tryz.func10, Tryz.ntmps10
    go_wp2_with fail
    go_loopw [3] (fun x v => ∃ k : Nat, k ≤ n ∧ x = .int .i64 k ∧ Hid (∀ j, j < k → okW (ss j) = true) ∧ Hid (Below w.heap.size w v)) (fun x _ => n - (intOf x).toNat)
    case atStart => exact ⟨0, Nat.zero_le _, rfl, fun i h1 => by omega, Below.refl _ _⟩
    case round =>
      obtain ⟨k, hk, rfl, HR, HW⟩ := hrel
      by_cases hlt : k < n
      · rcases HP.out.on HW.out with h0 | ⟨b, off, hsa, hcs⟩
        · omega
        have d0 := hcs k hlt
        have hsz := HF.out k hlt
        unfold maxLen at hsz
        clear hcs
        have hki : (k : Int) < (n : Int) := by omega
        by_cases q : okW (ss k) = true
        · have HWi := hideH (fun v => within_b (ss k).size 1 12 true (by have := okW_sz q; simp; omega) v)
          have HQ := hideH q
          clear q
          go_wp2_with (go_at_call 26; refine (HWi.out _).mono ?_; rintro e w1 ⟨rfl, rfl⟩)
          try simp only [← hsa]
          go_roundw
          case rel => exact ⟨k + 1, by omega, by go_num, fun j h1 => by
            by_cases hi : j = k
            · subst hi; exact HQ.out
            · exact HR.out j (by omega), HW⟩
          case measure => simp [intOf]; omega
        · have q' : okW (ss k) = false := by simpa using q
          have HWi := hideH (fun v => within_b (ss k).size 1 12 false (by unfold okW at q'; simp at q' ⊢; omega) v)
          have HE := hideH (bldE_bad (ss := ss) (by omega) hlt q')
          clear q q'
          go_wp2_with (go_at_call 26; refine (HWi.out _).mono ?_; rintro e w1 ⟨rfl, rfl⟩)
          go_ret
          unfold ckP
          exact ⟨ret_int HE.out.symm, HW.out⟩
      · obtain rfl : k = n := by omega
        have HE := hideH (bldE_ok (ss := ss) (by omega) HR.out)
        go_wp2_with fail
        go_ret
        unfold ckP
        exact ⟨ret_int HE.out.symm, HW.out⟩
/-- whereto a byte leads from a node, or -1 -/
def eOf (es : List (UInt8 × Int)) (c : UInt8) : Int := (edg es c).getD (-1)
theorem edg_first {l : List (UInt8 × Int)} {c : UInt8} {k : Nat} (hk : k < l.length) (h : eC l k = c) (h0 : ∀ j, j < k → eC l j ≠ c) : edg l c = some (eT l k) := by
  unfold edg
  have : l.find? (fun e => e.1 == c) = some l[k] := by
    rw [List.find?_eq_some_iff_getElem]
    refine ⟨by rw [eC_at hk]; simpa using h, k, hk, rfl, fun j hj => ?_⟩
    have := h0 j hj
    rw [eC_at (by omega)]
    simpa using this
  rw [this, eC_at hk]; rfl
set_option maxHeartbeats 4000000 in
theorem edgeOf_c (ea : Option Addr) (ec : Nat) (l : List (UInt8 × Int)) (wd : Int) (c : UInt8) (w : World) (hl : l.length ≤ maxLen) (hP : EdL w ea l) :
    Calls Tryz.prog 27 #[.agg #[.slice ea l.length ec, .int .i64 wd], .int .u8 (c.toNat : Int)] w fun e w' => ckP (eOf l c) w e w' := by
  have HP := hideH hP
  have hb := hideH ((Below.refl _ w).alloc (Nat.le_refl _) (.cells #[.slice ea l.length ec, .int .i64 wd] 43))
  have hx := hideH (heap_alloc_new w (.cells #[.slice ea l.length ec, .int .i64 wd] 43))
  unfold maxLen at hl
  have hc255 := c.toNat_lt
  obtain ⟨n, hn⟩ : ∃ n, n = l.length := ⟨_, rfl⟩
  have HN := hideH hn
  rw [← hn] at hl hb hx ⊢
  clear hn hP
  go_enter Tryz.func27, Tryz.ntmps27
  go_wp2_with fail
  go_loopw [5] (fun x v => ∃ k : Nat, k ≤ n ∧ x = .int .i64 k ∧ Hid (∀ j, j < k → eC l j ≠ c) ∧ Hid (Below w.heap.size w v) ∧ Hid (v.heap[w.heap.size]? = some (.cells #[.slice ea n ec, .int .i64 wd] 43))) (fun x _ => n - (intOf x).toNat)
  case atStart => exact ⟨0, Nat.zero_le _, rfl, fun i h1 => by omega, hb, hx⟩
  case round =>
    obtain ⟨k, hk, rfl, HR, HW, HX⟩ := hrel
    have x0 : wr.cell? ⟨w.heap.size, 0, none⟩ = some (.slice ea n ec) := by simp [World.cell?, HX.out]
    by_cases hlt : k < n
    · rcases HP.out.on HW.out with h0 | ⟨b, off, hsa, hcs⟩
      · have := HN.out; omega
      obtain ⟨d0, d1⟩ := hcs k (by have := HN.out; omega)
      clear hcs
      have hki : (k : Int) < (n : Int) := by omega
      have hkc := (eC l k).toNat_lt
      by_cases hq : eC l k = c
      · have hqb : (((eC l k).toNat : Int) == (c.toNat : Int)) = true := by simp [hq]
        have HE : Hid (eOf l c = eT l k) := by show _ = _; unfold eOf; rw [edg_first (by have := HN.out; omega) hq HR.out]; rfl
        clear hq
        go_wp2_with fail
        go_ret
        unfold ckP
        exact ⟨ret_int HE.out.symm, HW.out⟩
      · have hqb : (((eC l k).toNat : Int) == (c.toNat : Int)) = false := by
          rw [beq_eq_false_iff_ne]
          intro e
          exact hq (UInt8.toNat_inj.1 (by omega))
        have HQ := hideH hq
        clear hq
        go_wp2_with fail
        try simp only [← hsa]
        go_roundw
        case rel => exact ⟨k + 1, by omega, by go_num, fun j h1 => by
          by_cases hi : j = k
          · subst hi; exact HQ.out
          · exact HR.out j (by omega), HW, HX⟩
        case measure => simp [intOf]; omega
    · obtain rfl : k = n := by omega
      have HE : Hid (eOf l c = -1) := by show _ = _; unfold eOf; rw [edg_no (fun j hj => HR.out j (by have := HN.out; omega))]; rfl
      go_wp2_with fail
      go_ret
      unfold ckP
      exact ⟨ret_int HE.out.symm, HW.out⟩
/-- the first k edges of a node are right -/
def eOk (l : List (UInt8 × Int)) (i n : Int) (k : Nat) : Prop := ∀ j, j < k → (i < eT l j ∧ eT l j < n) ∧ (1 ≤ j → eC l (j - 1) < eC l j)
theorem okN_iff (t : List Nd) (i : Nat) : okN t i = true ↔ -1 ≤ (nod t i).wd ∧ eOk (nod t i).es i t.length (nod t i).es.length := by
  unfold okN eOk
  rw [Bool.and_eq_true, Bool.and_eq_true, decide_eq_true_eq, risB_iff, leaB_iff]
  constructor
  · rintro ⟨h1, h2, h3⟩
    exact ⟨h1, fun j hj => ⟨h3 j hj, fun h => h2 j h hj⟩⟩
  · rintro ⟨h1, h2⟩
    exact ⟨h1, fun j hj h => (h2 j h).2 hj, fun j hj => (h2 j hj).1⟩
end Go.Proofs.YtfjjdicgekgbeaaGreatDoor.Tri

/- The document's own: CheckTrie, TrieFind, TrieLongest. -/
namespace Go.Proofs.YtfjjdicgekgbeaaGreatDoor.Tri
open Go Go.RowKit Go.Maps
set_option linter.unusedVariables false

theorem cell2 {w : World} {b : Nat} {x y : Value} {t : TypeId} (h : w.heap[b]? = some (.cells #[x, y] t)) : w.cell? ⟨b, 0, none⟩ = some x ∧ w.cell? ⟨b, 1, none⟩ = some y := by
  refine ⟨?_, ?_⟩ <;> simp [World.cell?, h]
end Go.Proofs.YtfjjdicgekgbeaaGreatDoor.Tri

/- The document's own SameTries, of tries that are the same. -/
namespace Go.Proofs.YtfjjdicgekgbeaaGreatDoor.Tri
open Go Go.RowKit Go.Maps
set_option linter.unusedVariables false

set_option maxRecDepth 100000 in
set_option maxHeartbeats 8000000 in
theorem SameTries_c (a1 a2 : Option Addr) (c1 c2 : Nat) (t : List Nd) (w : World) (hf : fitT t) (h1 : TrL w a1 t) (h2 : TrL w a2 t) :
    Calls Tryz.prog 13 #[.slice a1 t.length c1, .slice a2 t.length c2] w fun e w' => e = .returned (.bool true) ∧ Below w.heap.size w w' := by
  have HA := hideH h1
  have HB := hideH h2
  have HF := hideH hf
  have hl := hf.len
  unfold maxLen at hl
  obtain ⟨N, hN⟩ : ∃ N, N = t.length := ⟨_, rfl⟩
  have HN := hideH hN
  rw [← hN] at hl ⊢
  clear hN h1 h2 hf
  go_enter Tryz.func13, Tryz.ntmps13
  go_wp2_with fail
  go_loopw [5] (fun x5 v => ∃ k : Nat, k ≤ N ∧ x5 = .int .i64 k ∧ Hid (Below w.heap.size w v)) (fun x5 _ => N - (intOf x5).toNat)
  case atStart => exact ⟨0, Nat.zero_le _, rfl, Below.refl _ _⟩
  case round =>
    obtain ⟨n, hk, rfl, HW⟩ := hrel
    by_cases hlt : n < N
    · rcases HA.out.on HW.out with h0 | ⟨b, off, hsa, hcs⟩
      · have := HN.out; omega
      rcases HB.out.on HW.out with h0 | ⟨b2, off2, hsb, hcs2⟩
      · have := HN.out; omega
      obtain ⟨ea, ec, d0, d1, d2⟩ := hcs n (by have := HN.out; omega)
      obtain ⟨eb, ed, e0, e1, e2⟩ := hcs2 n (by have := HN.out; omega)
      have hfe := HF.out.es n (by have := HN.out; omega)
      unfold maxLen at hfe
      have D2 := hideH d2
      have E2 := hideH e2
      obtain ⟨m, hm⟩ : ∃ m, m = (nod t n).es.length := ⟨_, rfl⟩
      obtain ⟨wd, hwd⟩ : ∃ wd, wd = (nod t n).wd := ⟨_, rfl⟩
      rw [← hm] at d0 e0 hfe
      rw [← hwd] at d1 e1
      have HM := hideH hm
      have hk0 : decide ((n : Int) < 0) = false := by simp
      have hkn : decide (N ≤ n) = false := by simp; omega
      have hki : (n : Int) < (N : Int) := by omega
      clear hcs hcs2 d2 e2 hm hwd
      obtain ⟨wo, hwo⟩ : ∃ wo, wo = wr := ⟨_, rfl⟩
      rw [← hwo] at d0 d1 e0 e1 HW D2 E2
      simp only [← hwo]
      clear hwo
      go_wp2_with fail
      go_quiet (fail)
      go_wp2_with fail
      go_loopw [6] (fun x6 v => ∃ k : Nat, k ≤ m ∧ x6 = .int .i64 k ∧ Hid (Below wo.heap.size wo v)) (fun x6 _ => m - (intOf x6).toNat)
      case atStart => exact ⟨0, Nat.zero_le _, rfl, below_drewN (Below.refl _ _) _⟩
      case round =>
        obtain ⟨k, hkm, rfl, HV⟩ := hrel
        have f0 := cell_on d0 HV.out
        have g0 := cell_on e0 HV.out
        by_cases hkl : k < m
        · rcases D2.out.on HV.out with h0 | ⟨ba, oa, hea, hca⟩
          · have := HM.out; omega
          rcases E2.out.on HV.out with h0 | ⟨bb, ob, heb, hcb⟩
          · have := HM.out; omega
          obtain ⟨p0, p1⟩ := hca k (by have := HM.out; omega)
          obtain ⟨q0, q1⟩ := hcb k (by have := HM.out; omega)
          clear hca hcb
          have hkj : (k : Int) < (m : Int) := by omega
          have hkj0 : decide ((k : Int) < 0) = false := by simp
          have hkjn : decide (m ≤ k) = false := by simp; omega
          generalize eC (nod t n).es k = cc at *
          generalize eT (nod t n).es k = tt at *
          go_wp2_with fail
          go_quiet (fail)
          go_wp2_with fail
          try simp only [← hsa, ← hsb, ← hea, ← heb]
          go_roundw
          case rel => exact ⟨k + 1, by omega, by go_num, below_drewN HV.out _⟩
          case measure => simp [intOf]; omega
        · have hkj : ¬ ((k : Int) < (m : Int)) := by omega
          go_wp2_with fail
          try simp only [← hsa, ← hsb]
          go_roundw
          case rel => exact ⟨n + 1, by omega, by go_num, bthen HW.out HV.out⟩
          case measure => simp [intOf]; omega
    · obtain rfl : n = N := by omega
      go_wp2_with fail
      go_ret
      exact ⟨rfl, HW.out⟩
end Go.Proofs.YtfjjdicgekgbeaaGreatDoor.Tri

/- An append of a row that may be empty; edges come to their place; an edge more, stored. -/
namespace Go.Proofs.YtfjjdicgekgbeaaGreatDoor.Tri
open Go Go.RowKit Go.Maps
set_option linter.unusedVariables false

theorem run_append_none {P : Program} {w : World} (base : Nat) (t ty e : TypeId) (i : TypeInfo) (size c : Nat) (ht : P.underlying t = some (.slice e)) (hi : P.info? e = some i)
    (v : Value) (n : Nat) (xs : List Value) (hown : w.ownsRow base e size v n xs) : (Builtin.append_ #[t, t] ty #[v, .slice none 0 c]).run P w = .ok v w := by
  rcases hown.2 with ⟨rfl, rfl⟩ | ⟨g, cap, cur, rfl, _, _, hnc, _⟩
  · simp [Builtin.append_, run_underlying ht, sizeOf, typeInfo, hi, Builtin.lenOf, Builtin.firstCells]
  · simp [Builtin.append_, run_underlying ht, sizeOf, typeInfo, hi, Builtin.lenOf, Builtin.firstCells, hnc, storeCells]
theorem wp_append_row {P : Program} (w : World) {o : Oper} {a : Act} {K : Act → World → Prop} {Q : Exit → Act → World → Prop} (s x : Operand) (t : TypeId)
    (ho : o.op = .call { callee := .builtin .append, args := #[s, x], argTypes := #[t, t] })
    (base : Nat) (e : TypeId) (i : TypeInfo) (z : Value) (size bytes : Nat) (ht : P.underlying t = some (.slice e)) (hi : P.info? e = some i) (hz : i.zero = some z)
    (hsize : i.size = size) (hby : i.bytes = bytes) (hzs : z.cells.size = size) (hsz : 0 < size)
    (v : Value) (n : Nat) (xs : List Value) (hs : a.eval s = v) (hown : w.ownsRow base e size v n xs)
    (ao : Option Addr) (m c : Nat) (news : List Value) (hx : a.eval x = .slice ao m c) (hl : news.length = m * size) (hnews : m = 0 ∨ ∃ ad, ao = some ad ∧ ∀ j u, news[j]? = some u → w.cell? (ad.add j) = some u) (h1 : ∀ u ∈ news, u.oneCell' = true)
    (h63 : n + m ≤ maxLen) (hbytes : (n + m) * bytes ≤ 140737488355328) (hbase : base ≤ w.heap.size)
    (h : ∀ v' w', w'.ownsRow base e size v' (n + m) (xs ++ news) → w.grownBy w' v.ownBlock → (v'.ownBlock = v.ownBlock ∨ v'.ownBlock = some w.heap.size) → K (a.put o.dst v') w') :
    Oper.wp P o a w K Q := by
  have key : ∃ v' w', (Builtin.append_ #[t, t] o.type #[v, .slice ao m c]).run P w = .ok v' w' ∧ w'.ownsRow base e size v' (n + m) (xs ++ news) ∧ w.grownBy w' v.ownBlock ∧ (v'.ownBlock = v.ownBlock ∨ v'.ownBlock = some w.heap.size) := by
    have hnil : m = 0 → news = [] := fun h => by
      subst h
      cases news with
      | nil => rfl
      | cons => simp at hl
    cases ao with
    | none =>
      rcases hnews with rfl | ⟨ad, h0, _⟩
      · rw [hnil rfl]
        exact ⟨v, w, run_append_none base t o.type e i size c ht hi v n xs hown, by simpa using hown, ⟨rfl, rfl, rfl, Nat.le_refl _, fun _ _ _ => rfl⟩, .inl rfl⟩
      · cases h0
    | some ad =>
      have hn : ∀ j u, news[j]? = some u → w.cell? (ad.add j) = some u := by
        rcases hnews with rfl | ⟨ad', h0, h⟩
        · intro j u hj
          rw [hnil rfl] at hj
          simp at hj
        · cases h0; exact h
      obtain ⟨v', w', hr, h2, h3, _, h5⟩ := run_append_own_at (P := P) w base t o.type e i z size bytes ht hi hz hsize hby hzs hsz v n xs hown ad m c news hl hn h1 h63 hbytes hbase
      exact ⟨v', w', hr, h2, h3, h5⟩
  obtain ⟨v', w', hr, h2, h3, h4⟩ := key
  unfold Oper.wp execOp
  simp only [ho, resolve, invoke, builtin, Sem.run_bind, Sem.run_pure, Result.andThen_ok, List.map_toArray, List.map_cons, List.map_nil, hs, hx, hr]
  exact h v' w' h2 h3 h4
theorem wpList_append_row {P : Program} (w : World) {ops : Array Oper} {rest : List Oper} {o : Oper} {a : Act} {Q : Exit → Act → World → Prop} (hgd : o.guard = none) (s x : Operand) (t : TypeId)
    (ho : o.op = .call { callee := .builtin .append, args := #[s, x], argTypes := #[t, t] })
    (base : Nat) (e : TypeId) (i : TypeInfo) (z : Value) (size bytes : Nat) (ht : P.underlying t = some (.slice e)) (hi : P.info? e = some i) (hz : i.zero = some z)
    (hsize : i.size = size) (hby : i.bytes = bytes) (hzs : z.cells.size = size) (hsz : 0 < size)
    (v : Value) (n : Nat) (xs : List Value) (hs : a.eval s = v) (hown : w.ownsRow base e size v n xs)
    (ao : Option Addr) (m c : Nat) (news : List Value) (hx : a.eval x = .slice ao m c) (hl : news.length = m * size) (hnews : m = 0 ∨ ∃ ad, ao = some ad ∧ ∀ j u, news[j]? = some u → w.cell? (ad.add j) = some u) (h1 : ∀ u ∈ news, u.oneCell' = true)
    (h63 : n + m ≤ maxLen) (hbytes : (n + m) * bytes ≤ 140737488355328) (hbase : base ≤ w.heap.size)
    (h : ∀ v' w', w'.ownsRow base e size v' (n + m) (xs ++ news) → w.grownBy w' v.ownBlock → (v'.ownBlock = v.ownBlock ∨ v'.ownBlock = some w.heap.size) → wpList P ops Q rest (a.put o.dst v') w') : wpList P ops Q (o :: rest) a w :=
  wpList_plain hgd fun _ hK => wp_append_row w s x t ho base e i z size bytes ht hi hz hsize hby hzs hsz v n xs hs hown ao m c news hx hl hnews h1 h63 hbytes hbase fun v' w' h2 h3 h4 => hK _ _ (h v' w' h2 h3 h4)
theorem own_void {w : World} {base g : Nat} {e : TypeId} {size : Nat} (h : w.heap[g]? = some (.cells #[] e)) (hg : base ≤ g) : w.ownsRow base e size (.slice (some ⟨g, 0, none⟩) 0 0) 0 [] :=
  ⟨by simp, .inr ⟨g, 0, #[], rfl, hg, h, Nat.le_refl _, by unfold maxLen; omega, by simp, by simp⟩⟩
theorem ecells_at (es : List (UInt8 × Int)) {j : Nat} (h : j < es.length) : (ecells es)[j * 2]? = some (.int .u8 ((eC es j).toNat : Int)) ∧ (ecells es)[j * 2 + 1]? = some (.int .i64 (eT es j)) := by
  have hd := ecells_drop es j
  have hx : es.drop j = es[j] :: es.drop (j + 1) := List.drop_eq_getElem_cons h
  rw [hx, ecells_cons, eC_at h] at hd
  constructor
  · have := congrArg (fun l => l[0]?) hd
    simpa [List.getElem?_drop] using this
  · have := congrArg (fun l => l[1]?) hd
    simpa [List.getElem?_drop] using this
theorem edl_news {w : World} {ea : Option Addr} {es : List (UInt8 × Int)} (h : EdL w ea es) : es.length = 0 ∨ ∃ ad, ea = some ad ∧ ∀ j u, (ecells es)[j]? = some u → w.cell? (ad.add j) = some u := by
  rcases h with h | ⟨b, off, rfl, h⟩
  · exact .inl h
  · refine .inr ⟨_, rfl, fun j u hj => ?_⟩
    have hjl : j < es.length * 2 := by
      have := (List.getElem?_eq_some_iff.1 hj).1
      rwa [ecells_len] at this
    have hadd : (⟨b, off, none⟩ : Addr).add j = ⟨b, off + j, none⟩ := by unfold Addr.add; split <;> simp_all
    rw [hadd]
    obtain ⟨c0, c1⟩ := h (j / 2) (by omega)
    obtain ⟨e0, e1⟩ := ecells_at es (j := j / 2) (by omega)
    by_cases hp : j % 2 = 0
    · rw [show j / 2 * 2 = j by omega] at e0 c0
      rw [c0, ← e0, hj]
    · rw [show j / 2 * 2 + 1 = j by omega] at e1
      rw [show off + j / 2 * 2 + 1 = off + j by omega] at c1
      rw [c1, ← e1, hj]
/-- an edge goes one place to the front -/
theorem put_back (es : List (UInt8 × Int)) {p : Nat} (hp : p < es.length) (c : UInt8) (k : Int) :
    (((((ecells (put1 es (p + 1) c k)).set (p * 2) (.int .u8 (c.toNat : Int))).set (p * 2 + 1) (.int .i64 k)).set ((p + 1) * 2) (.int .u8 ((eC es p).toNat : Int))).set ((p + 1) * 2 + 1) (.int .i64 (eT es p))) = ecells (put1 es p c k) := by
  have h1 : put1 es (p + 1) c k = es.take p ++ ((eC es p, eT es p) :: (c, k) :: es.drop (p + 1)) := by
    unfold put1
    rw [List.take_add_one, List.getElem?_eq_getElem hp, eC_at hp]
    simp
  have h2 : put1 es p c k = es.take p ++ ((c, k) :: (eC es p, eT es p) :: es.drop (p + 1)) := by
    unfold put1
    rw [List.drop_eq_getElem_cons hp, eC_at hp]
  have hl : (ecells (es.take p)).length = p * 2 := by rw [ecells_len, List.length_take]; omega
  rw [h1, h2, ecells_append, ecells_append, ecells_cons, ecells_cons, ecells_cons, ecells_cons]
  generalize ecells (es.take p) = A at *
  generalize ecells (es.drop (p + 1)) = B at *
  rw [← hl, List.set_append_right _ _ (Nat.le_refl _), Nat.sub_self, List.set_append_right _ _ (by omega), show A.length + 1 - A.length = 1 by omega, show (p + 1) * 2 = A.length + 2 by omega, List.set_append_right _ _ (by omega), show A.length + 2 - A.length = 2 by omega, List.set_append_right _ _ (by omega), show A.length + 2 + 1 - A.length = 3 by omega]
  rfl
theorem put_here (es : List (UInt8 × Int)) {p : Nat} (hp : p ≤ es.length) (c : UInt8) (k : Int) : (ecells (put1 es p c k))[p * 2]? = some (.int .u8 (c.toNat : Int)) ∧ (ecells (put1 es p c k))[p * 2 + 1]? = some (.int .i64 k) := by
  rw [put1_cells]
  have hl : ((ecells es).take (p * 2)).length = p * 2 := by rw [List.length_take, ecells_len]; omega
  rw [List.append_assoc]
  constructor
  · rw [List.getElem?_append_right (by omega), hl, Nat.sub_self]; rfl
  · rw [List.getElem?_append_right (by omega), hl, show p * 2 + 1 - p * 2 = 1 by omega]; rfl
theorem put_ahead (es : List (UInt8 × Int)) {p : Nat} (hp : p < es.length) (c : UInt8) (k : Int) : (ecells (put1 es (p + 1) c k))[p * 2]? = some (.int .u8 ((eC es p).toNat : Int)) ∧ (ecells (put1 es (p + 1) c k))[p * 2 + 1]? = some (.int .i64 (eT es p)) := by
  rw [put1_cells]
  have hl : ((ecells es).take ((p + 1) * 2)).length = (p + 1) * 2 := by rw [List.length_take, ecells_len]; omega
  rw [List.append_assoc, List.getElem?_append_left (by omega), List.getElem?_append_left (by omega), List.getElem?_take, List.getElem?_take, if_pos (by omega), if_pos (by omega)]
  exact ecells_at es hp
theorem put_end (es : List (UInt8 × Int)) (c : UInt8) (k : Int) : ecells es ++ [.int .u8 (c.toNat : Int), .int .i64 k] = ecells (put1 es es.length c k) := by
  rw [put1_cells, List.take_of_length_le (by rw [ecells_len]; omega), List.drop_of_length_le (by rw [ecells_len]; omega), List.append_nil]
theorem owns_mono {w : World} {base base' : Nat} {e : TypeId} {size : Nat} {v : Value} {n : Nat} {xs : List Value} (h : w.ownsRow base e size v n xs) (hb : base' ≤ base) : w.ownsRow base' e size v n xs :=
  ⟨h.1, h.2.imp id fun ⟨g, cap, cur, h1, h2, h3⟩ => ⟨g, cap, cur, h1, Nat.le_trans hb h2, h3⟩⟩
/-- an edge more, in a row that was made behind the trie, stored -/
theorem OwT.edge2 {w w1 : World} {base g cap gu n c : Nat} {vs : Nat → Value} {t : List Nd} {a : Nat} {es' : List (UInt8 × Int)} (h0 : OwT w base (.slice (some ⟨g, 0, none⟩) t.length cap) vs t) (ha : a < t.length) (hB : Below w.heap.size w w1)
    (hu : w1.ownsRow base 45 2 (.slice (some ⟨gu, 0, none⟩) n c) es'.length (ecells es')) (hx : w.heap.size ≤ gu) :
    OwT (w1.setCell ⟨g, a * 2, none⟩ (.slice (some ⟨gu, 0, none⟩) n c)) base (.slice (some ⟨g, 0, none⟩) t.length cap) (fun j => if j = a then (.slice (some ⟨gu, 0, none⟩) n c) else vs j) (t.set a ⟨es', (nod t a).wd⟩) := by
  have h := h0.on hB
  obtain ⟨s1, s2⟩ := h.row.stored (a * 2) (.slice (some ⟨gu, 0, none⟩) n c)
  have hlen : (t.set a ⟨es', (nod t a).wd⟩).length = t.length := by simp
  have hwd : ∀ j, j < t.length → (nod t j).wd = (nod (t.set a ⟨es', (nod t a).wd⟩) j).wd := fun j hj => by
    by_cases e : j = a
    · subst e; rw [nod_set_same _ ha]
    · rw [nod_set_other _ e]
  have hau : ap (.slice (some ⟨gu, 0, none⟩) n c) (.slice (some ⟨g, 0, none⟩) t.length cap) := fun k hk hx2 => by
    have := (own_lt h0.row hx2).2
    have h1 : gu = k := by simpa [Value.ownBlock] using hk
    omega
  have hav : ∀ j, j < t.length → j ≠ a → ap (.slice (some ⟨gu, 0, none⟩) n c) (vs j) := fun j hj hne k hk hx2 => by
    have := (own_lt (h0.es j hj) hx2).2
    have h1 : gu = k := by simpa [Value.ownBlock] using hk
    omega
  refine ⟨?_, fun j hj => ?_, fun j hj => ?_, fun i j hi hj hne => ?_⟩
  · rw [hlen, ← ncells_set0 vs t _ _ ha hwd]
    exact s1
  · rw [hlen] at hj
    by_cases e : j = a
    · subst e
      rw [nod_set_same _ ha]
      simp only [if_true]
      exact own_far (v := .slice (some ⟨g, 0, none⟩) t.length cap) hu s2 hau
    · rw [nod_set_other _ e]
      simp only [if_neg e]
      exact own_far (v := .slice (some ⟨g, 0, none⟩) t.length cap) (h.es j hj) s2 (h.av j hj)
  · rw [hlen] at hj
    by_cases e : j = a
    · simp only [if_pos e]; exact hau
    · simp only [if_neg e]; exact h.av j hj
  · rw [hlen] at hi hj
    by_cases e : i = a
    · simp only [if_pos e]
      rw [if_neg (fun h => hne (by rw [e, h]))]
      exact hav j hj (fun h => hne (by rw [e, h]))
    · simp only [if_neg e]
      by_cases e2 : j = a
      · simp only [if_pos e2]; exact ap_symm (hav i hi e)
      · simp only [if_neg e2]; exact h.aa i j hi hj hne
/-- an edge, stored -/
def set2 (w : World) (g o : Nat) (c : UInt8) (k : Int) : World := (w.setCell ⟨g, o, none⟩ (.int .u8 (c.toNat : Int))).setCell ⟨g, o + 1, none⟩ (.int .i64 k)
theorem set2_below {B : Nat} {w v : World} {g : Nat} (h : Below B w v) (hg : B ≤ g) (o : Nat) (c : UInt8) (k : Int) : Below B w (set2 v g o c k) := (h.setCell (p := ⟨g, o, none⟩) hg _).setCell (p := ⟨g, o + 1, none⟩) hg _
theorem set2_other {w : World} {g k : Nat} (h : k ≠ g) (o : Nat) (c : UInt8) (x : Int) : (set2 w g o c x).heap[k]? = w.heap[k]? := by
  unfold set2
  simp [World.setCell, Array.getElem?_modify, Ne.symm h]
theorem two_boxes (w : World) (o1 o2 : Obj) : Below w.heap.size w ((w.alloc o1).alloc o2) ∧ ((w.alloc o1).alloc o2).heap[w.heap.size]? = some o1 ∧ ((w.alloc o1).alloc o2).heap[w.heap.size + 1]? = some o2 := by
  refine ⟨((Below.refl _ w).alloc (Nat.le_refl _) _).alloc (by simp) _, ?_, ?_⟩
  · rw [Below.heap_alloc _ _ _ (by simp)]; exact World.alloc_heap_new _ _
  · have := World.alloc_heap_new (w.alloc o1) o2
    rwa [World.size_alloc] at this
theorem set2_own {w : World} {base n g c : Nat} {xs : List Value} (h : w.ownsRow base 45 2 (.slice (some ⟨g, 0, none⟩) n c) n xs) (o : Nat) (x : UInt8) (y : Int) : (set2 w g o x y).ownsRow base 45 2 (.slice (some ⟨g, 0, none⟩) n c) n ((xs.set o (.int .u8 (x.toNat : Int))).set (o + 1) (.int .i64 y)) :=
  ((h.stored o _).1.stored (o + 1) _).1
/-- where BuildOf stands in a word -/
def bJ (base : Nat) (w : World) (t : List Nd) (s : ByteArray) (T : List Nd) (v : Value) (n a : Nat) (W : World) : Prop :=
  ∃ vs pre p, OwT W base v vs T ∧ Ok T pre ∧ pre[a]? = some p ∧ lay t 0 s.data.toList = lay T a (s.data.toList.drop n) ∧ T.length ≤ t.length + n ∧ (∀ i, -1 ≤ (nod T i).wd) ∧ Below base w W
theorem bJ_next {base : Nat} {w : World} {t : List Nd} {s : ByteArray} {T : List Nd} {n a : Nat} {W : World} {v : Value} {vs : Nat → Value} {pre : List (List UInt8)} {p : List UInt8} (hlt : n < s.size) (hO : OwT W base v vs (grow T a s[n])) (hk : Ok T pre) (hp : pre[a]? = some p)
    (hlay : lay t 0 s.data.toList = lay T a (s.data.toList.drop n)) (hed : edg (nod T a).es s[n] = none) (hT : T.length ≤ t.length + n) (hwd : ∀ i, -1 ≤ (nod T i).wd) (hb : Below base w W) : bJ base w t s (grow T a s[n]) v (n + 1) T.length W := by
  have hal : a < T.length := by rw [hk.len]; exact (List.getElem?_eq_some_iff.1 hp).1
  refine ⟨vs, pre ++ [p ++ [s[n]]], p ++ [s[n]], hO, ok_grow hk hp hed, ?_, ?_, by rw [grow_len]; omega, fun i => by rw [wd_grow _ hal]; exact hwd i, hb⟩
  · rw [List.getElem?_append_right (by rw [hk.len]; exact Nat.le_refl _), hk.len]; simp
  · rw [hlay, drop_cons s n hlt, lay, hed]
theorem bJ_on {base : Nat} {w : World} {t : List Nd} {s : ByteArray} {T : List Nd} {n a : Nat} {W W' : World} {v : Value} (hlt : n < s.size) {k : Int} (hed : edg (nod T a).es s[n] = some k) (hb : base ≤ w.heap.size) (h : bJ base w t s T v n a W) (hW : Below W.heap.size W W') : bJ base w t s T v (n + 1) k.toNat W' ∧ ((k.toNat : Nat) : Int) = k := by
  obtain ⟨vs, pre, p, hO, hk, hp, hlay, hT, hwd, hbel⟩ := h
  obtain ⟨h0, h1⟩ := (hk.ed a p hp _ _).1 ((edg_mem (hk.so a) _ _).1 hed)
  refine ⟨⟨vs, pre, p ++ [s[n]], hO.on hW, hk, h1, ?_, by omega, hwd, hbel.trans (hW.mono (by have := hbel.size; omega))⟩, by omega⟩
  rw [hlay, drop_cons s n hlt, lay, hed]
theorem cnt_stop {es : List (UInt8 × Int)} (hr : Rises es) {c : UInt8} (hn : edg es c = none) {p : Nat} (hp : p ≤ es.length) (h1 : p = 0 ∨ ¬ c < eC es (p - 1)) (h2 : ∀ i, p ≤ i → i < es.length → c < eC es i) : cnt es c = p := by
  have hne : ∀ i, i < es.length → eC es i ≠ c := fun i hi e => edg_none.1 hn (eC es i, eT es i) (by rw [← eC_at hi]; exact List.getElem_mem hi) e
  refine cnt_at hp (fun t ht => ?_) (fun t h3 h4 => fun h5 => UInt8.lt_irrefl _ (UInt8.lt_trans h5 (h2 t h3 h4)))
  rcases h1 with h | h
  · omega
  · have hpl : p - 1 < es.length := by omega
    have h6 : eC es (p - 1) < c := by
      rcases UInt8.lt_or_lt_of_ne (hne (p - 1) hpl) with h7 | h7
      · exact h7
      · exact absurd h7 h
    by_cases e : t = p - 1
    · rw [e]; exact h6
    · exact UInt8.lt_trans (rises_at hr (i := t) (j := p - 1) (by omega) hpl) h6
end Go.Proofs.YtfjjdicgekgbeaaGreatDoor.Tri

/- The document's own BuildOf. -/
namespace Go.Proofs.YtfjjdicgekgbeaaGreatDoor.Tri
open Go Go.RowKit Go.Maps
set_option linter.unusedVariables false

set_option maxRecDepth 100000 in
set_option maxHeartbeats 8000000 in
theorem BuildOf_c (a : Option Addr) (n c : Nat) (ss : Nat → ByteArray) (w : World) (hP : TxA w a n ss) (h0 : bldE n ss = 0) :
    Calls Tryz.prog 14 #[.slice a n c] w fun e w' => adP w.heap.size w (bldN (wl n ss) n) e w' := by
  obtain ⟨h40, hok⟩ := bldE_zero h0
  have HP := hideH hP
  have HS12 : Hid (∀ j, j < n → (ss j).size ≤ 12) := fun j hj => (okW_sz (hok j hj)).2
  have HSt := hideH (own_start w)
  have HB0 := hideH ((Below.refl _ w).alloc (Nat.le_refl _) (.cells #[.slice none 0 0, .int .i64 (-1)] 43))
  obtain ⟨i0, hi, hz0, hz1, hz2⟩ := info_parts info_node
  obtain ⟨i1, hj, hy0, hy1, hy2⟩ := info_parts info_edge
  have HX : Hid (∀ (B : Nat), B = w.heap.size → B ≤ w.heap.size) := fun B h => by omega
  clear hP hok h0
  go_enter Tryz.func14, Tryz.ntmps14
  go_wp2_with fail
  go_loopw [3, 4] (fun x3 x4 v => ∃ (i : Nat) (vs : Nat → Value), i ≤ n ∧ x4 = .int .i64 i ∧ Hid (OwT v w.heap.size x3 vs (bldN (wl n ss) i)) ∧ Hid (Below w.heap.size w v)) (fun _ x4 _ => n - (intOf x4).toNat)
  case atStart => exact ⟨0, _, Nat.zero_le _, rfl, HSt, HB0⟩
  case round =>
    obtain ⟨i, vs0, hin, rfl, HO, HW⟩ := hrel
    by_cases hlt : i < n
    · obtain ⟨pre0, o1, o2, o3⟩ := bld_fits (n := n) (ss := ss) (k := i) (by omega) h40 HS12.out
      have hokT := ok_okT o1 o2
      obtain ⟨g0, cap0, hv0, -, -, -, -, -⟩ := HO.out.slice hokT.1
      obtain ⟨t, ht⟩ : ∃ t, t = bldN (wl n ss) i := ⟨_, rfl⟩
      obtain ⟨s, hs⟩ : ∃ s, s = ss i := ⟨_, rfl⟩
      have h12 : s.size ≤ 12 := by rw [hs]; exact HS12.out i hlt
      have HNx : Hid (bldN (wl n ss) (i + 1) = addw t s.data.toList i) := by
        show _ = _
        rw [bld_succ, wo_wl hlt, ht, hs]
      rw [← ht] at HO o1 o2 o3 hv0
      have HT := hideH ht
      have HSS := hideH hs
      have HI : Hid (bJ w.heap.size w t s t (.slice (some ⟨g0, 0, none⟩) t.length cap0) 0 0 wr) := by
        refine ⟨vs0, pre0, [], ?_, o1, o1.zero, rfl, by omega, fun j => ?_, HW.out⟩
        · rw [← hv0]; exact HO.out
        · by_cases hj : j < t.length
          · exact o2 j hj
          · rw [nod, List.getElem?_eq_none (by omega)]; decide
      subst hv0
      have htl : t.length ≤ 600 := o3
      obtain ⟨tl, htl2⟩ : ∃ tl, tl = t.length := ⟨_, rfl⟩
      rw [← htl2] at htl
      have HTL := hideH htl2
      clear ht hs HO o1 o2 o3 hokT HW htl2
      have hini : (i : Int) < (n : Int) := by omega
      obtain ⟨wo, hwo⟩ : ∃ wo, wo = wr := ⟨_, rfl⟩
      rw [← hwo] at HI
      simp only [← hwo]
      clear hwo
      go_wp2_with fail
      go_loopw [3, 5, 6] (fun x3 x5 x6 W => ∃ (T : List Nd) (m a g cap : Nat), m ≤ s.size ∧ x3 = .slice (some ⟨g, 0, none⟩) T.length cap ∧ x6 = .int .i64 m ∧ x5 = .int .i64 a ∧ Hid (bJ w.heap.size w t s T (.slice (some ⟨g, 0, none⟩) T.length cap) m a W)) (fun _ _ x6 _ => s.size - (intOf x6).toNat)
      case atStart => exact ⟨t, 0, 0, g0, cap0, Nat.zero_le _, rfl, rfl, rfl, HI⟩
      case round =>
        obtain ⟨T, m, a', g, cap, hm, rfl, rfl, rfl, HA⟩ := hrel
        have HBw : Hid (Below w.heap.size w wr) := by obtain ⟨_, _, _, _, _, _, _, _, _, h⟩ := HA.out; exact h
        rcases HP.out.on HBw.out with h0 | ⟨b, off, hsa, hcs⟩
        · omega
        have ds := hcs i hlt
        rw [← HSS.out] at ds
        clear hcs
        obtain ⟨vs, pre, p, hO, hk, hp, hlay, hTl, hwd, hbel⟩ := HA.out
        have hal : a' < T.length := by rw [hk.len]; exact (List.getElem?_eq_some_iff.1 hp).1
        obtain ⟨g', cap', he2, hbg, hgw, -, hcells, hfz⟩ := hO.slice (by omega)
        simp only [Value.slice.injEq, Option.some.injEq, Addr.mk.injEq, and_true, true_and] at he2
        obtain ⟨rfl, rfl⟩ := he2
        have hTl2 : T.length ≤ tl + m := by have := HTL.out; omega
        have hai : (a' : Int) < (T.length : Int) := by omega
        have ha0 : (0 : Int) ≤ (a' : Int) := by omega
        obtain ⟨d0, d1⟩ := hcells a' hal
        have hmi : ((m : Int) < (s.size : Int)) = (m < s.size) := by simp
        by_cases hms : m < s.size
        · obtain ⟨ea, ec, he1, hec, hedl⟩ := own_edl (hO.es a' hal)
          rw [he1] at d0
          have HEd := hideH (fun v (hv : Below wr.heap.size wr v) => edgeOf_c ea ec (nod T a').es (nod T a').wd s[m] v (by have := rises_len (hk.so a'); unfold maxLen; omega) (hedl.on hv))
          unfold ckP at HEd
          have hrl := rises_len (hk.so a')
          have fz := hfz (a' * 2)
          have HR := hideH (hk.so a')
          have HL := hideH hedl
          have HO2 := hideH hO
          have HK2 := hideH hk
          have HPp := hideH hp
          have HLy := hideH hlay
          have HE1 := hideH he1
          have HTl := hideH hTl
          have HWd := hideH hwd
          clear hO hk hp hlay he1 hec hedl hcells hfz hTl hwd hbel hmi
          have hni : (m : Int) < (s.size : Int) := by omega
          cases hed : edg (nod T a').es s[m] with
          | some k =>
            have heo : eOf (nod T a').es s[m] = k := by unfold eOf; rw [hed]; rfl
            have HNx2 := hideH (fun v (hv : Below wr.heap.size wr v) => (bJ_on hms hed (Nat.le_refl _) HA.out hv).1)
            have hkk := (bJ_on hms hed (Nat.le_refl _) HA.out (Below.refl _ _)).2
            rw [heo, ← hkk] at HEd
            generalize k.toNat = kk at *
            clear hkk heo hed k fz
            go_wp2_with (go_at_call 27; refine (HEd.out _ (Below.refl _ _)).mono ?_; rintro e w2 ⟨rfl, hw2⟩)
            have H2 := hideH (HNx2.out _ hw2)
            clear hw2 d0 d1 ds
            try simp only [← hsa]
            go_roundw
            case rel => exact ⟨T, m + 1, kk, g, cap, by omega, rfl, by go_num, rfl, H2⟩
            case measure => simp [intOf]; omega
          | none =>
            have heo : eOf (nod T a').es s[m] = -1 := by unfold eOf; rw [hed]; rfl
            rw [heo] at HEd
            have HED := hideH hed
            obtain ⟨E, hE⟩ : ∃ E, E = (nod T a').es := ⟨_, rfl⟩
            have HE := hideH hE
            obtain ⟨L, hL⟩ : ∃ L, L = E.length := ⟨_, rfl⟩
            rw [← hE, ← hL] at hrl d0 HEd
            rw [← hE] at HR HL HED
            have HLn := hideH hL
            clear heo hed hE hL
            go_wp2_with (go_at_call 27; refine (HEd.out _ (Below.refl _ _)).mono ?_; rintro e w2 ⟨rfl, hw2⟩; refine Hid.out ?_)
            refine hideH ?_
            obtain ⟨C, hC⟩ : ∃ C, C = s[m] := ⟨_, rfl⟩
            have HC := hideH hC
            rw [← hC] at HED
            simp only [← hC]
            clear hC HEd
            have d2 := cell_on d0 hw2
            have fz2 : w2.frozen? ⟨g, a' * 2, none⟩ = false := by rw [hw2.frozen (p := ⟨g, a' * 2, none⟩) hgw]; exact fz
            have hgw2 : g < w2.heap.size := by have := hw2.size; omega
            have H2 := hideH hw2
            clear hw2 d0 d1 ds fz
            have HB3 : Hid (Below w2.heap.size w2 (w2.alloc (.cells #[] 45))) := (Below.refl _ w2).alloc (Nat.le_refl _) _
            have HV3 : Hid ((w2.alloc (.cells #[] 45)).ownsRow w2.heap.size 45 2 (.slice (some ⟨w2.heap.size, 0, none⟩) 0 0) 0 []) := own_void (World.alloc_heap_new w2 _) (Nat.le_refl _)
            have HN3 := hideH (edl_news ((HL.out.on H2.out).on HB3.out))
            rw [← HLn.out] at HN3
            have d3 := cell_on d2 HB3.out
            go_wp2_with (at_builtin; first | (refine wpList_append_row _ rfl _ _ 41 rfl w2.heap.size 45 i1 _ 2 16 Tryz.underlying41 hj hy0 hy1 hy2 rfl (by decide) _ _ _ rfl HV3.out ea L ec (ecells E) rfl (by rw [ecells_len, HLn.out]) HN3.out (ecells_one E) (by unfold maxLen; omega) (by omega) (by simp) ?_; intro v3 w3 hown3 hgrow3 hat3; refine Hid.out ?_))
            refine hideH ?_
            have HB4 := hideH (below_own HB3.out (Nat.le_refl _) HV3.out hgrow3)
            have O3 : Hid (w3.ownsRow w2.heap.size 45 2 v3 L (ecells E)) := by
              show World.ownsRow _ _ _ _ _ _ _
              rw [Nat.zero_add, List.nil_append] at hown3
              exact hown3
            have d4 := cell_on d2 HB4.out
            clear hown3 hgrow3 hat3 HB3 HV3 HN3 d3
            have HB5 : Hid (Below w3.heap.size w3 (w3.alloc (.cells #[.int .u8 (C.toNat : Int), .int .i64 T.length] 45))) := (Below.refl _ w3).alloc (Nat.le_refl _) _
            have O4 := hideH (own_on O3.out HB5.out)
            have HN5 : Hid (∀ j u, [Value.int .u8 (C.toNat : Int), Value.int .i64 T.length][j]? = some u → (w3.alloc (.cells #[.int .u8 (C.toNat : Int), .int .i64 T.length] 45)).cell? ((⟨w3.heap.size, 0, none⟩ : Addr).add j) = some u) := fun j u hj => by
              match j, hj with
              | 0, hj => simp at hj; subst hj; simp [Addr.add_lit]
              | 1, hj => simp at hj; subst hj; simp [Addr.add_lit]
              | j + 2, hj => simp at hj
            have HS5 : Hid (w2.heap.size ≤ (w3.alloc (.cells #[.int .u8 (C.toNat : Int), .int .i64 T.length] 45)).heap.size) := by
              have h1 := HB4.out.size
              have h2 := HB5.out.size
              show _ ≤ _
              omega
            go_wp2_with (at_builtin; refine wpList_append_lies _ rfl _ _ 41 rfl w2.heap.size 45 i1 _ 2 16 Tryz.underlying41 hj hy0 hy1 hy2 rfl (by decide) _ _ _ rfl O4.out ⟨w3.heap.size, 0, none⟩ 1 1 [.int .u8 (C.toNat : Int), .int .i64 T.length] rfl rfl HN5.out (by simp [Value.oneCell']) (by decide) (by unfold maxLen; omega) (by omega) HS5.out _ rfl ?_; intro g4 q4 w4 hown4 hgrow4 hat4 hl4; refine Hid.out ?_)
            refine hideH ?_
            have HB6 := hideH (below_own (HB4.out.trans (HB5.out.mono HB4.out.size)) (Nat.le_refl _) O4.out hgrow4)
            have O6 : Hid (w4.ownsRow w2.heap.size 45 2 (.slice (some ⟨g4, 0, none⟩) (L + 1) q4) (L + 1) (ecells (put1 E L C T.length))) := by
              show World.ownsRow _ _ _ _ _ _ _
              rw [HLn.out, ← put_end, ← HLn.out]
              exact hown4
            have hg4 : w2.heap.size ≤ g4 := (own_lt O6.out rfl).1
            have HOw := hideH (HO2.out.on H2.out)
            have HBq : Hid (Below w.heap.size w w2) := bthen HBw.out H2.out
            clear hown4 hgrow4 hat4 hl4 O3 O4 HB4 HB5 HN5 HS5 d4 H2 HBw HO2 HA
            have hgq : g ≠ g4 := by omega
            go_wp2_with fail
            go_loopw [10] (fun x10 v => ∃ q : Nat, q ≤ L ∧ x10 = .int .i64 q ∧ Hid (v.ownsRow w2.heap.size 45 2 (.slice (some ⟨g4, 0, none⟩) (L + 1) q4) (L + 1) (ecells (put1 E q C T.length))) ∧ Hid (∀ i, q ≤ i → i < L → C < eC E i) ∧ Hid (Below w2.heap.size w2 v)) (fun x10 _ => (intOf x10).toNat)
            case atStart => exact ⟨L, Nat.le_refl _, by go_num, O6, fun i h1 h2 => by omega, HB6⟩
            case round =>
              obtain ⟨q, hq, rfl, HO3, HG, HV⟩ := hrel
              clear O6 HB6
              have d5 := cell_on d2 HV.out
              have fz5 : wr.frozen? ⟨g, a' * 2, none⟩ = false := by rw [HV.out.frozen (p := ⟨g, a' * 2, none⟩) hgw2]; exact fz2
              by_cases hx : 0 < q ∧ C < eC E (q - 1)
              · obtain ⟨p', hpq⟩ : ∃ p', q = p' + 1 := ⟨q - 1, by omega⟩
                have hxx : C < eC E p' := by have := hx.2; rwa [show q - 1 = p' by omega] at this
                obtain ⟨cu0, cu1⟩ := put_ahead E (p := p') (by have := HLn.out; omega) C T.length
                obtain ⟨cv0, cv1⟩ := put_here E (p := q) (by have := HLn.out; omega) C T.length
                rw [← hpq] at cu0 cu1
                rw [← HO3.out.cellAt _ (by omega)] at cu0 cu1 cv0 cv1
                have hwp : IntKind.i64.wrap ((q : Int) - 1) = (p' : Int) := by rw [wrap_nn (by omega) (by omega)]; omega
                have hp0 : decide ((p' : Int) < 0) = false := by simp
                have hq0 : decide ((q : Int) < 0) = false := by simp
                have hgn : 0 < q := by omega
                have hgi : (0 : Int) < (q : Int) := by omega
                have hpd : decide (L + 1 ≤ p') = false := by simp; omega
                have hqd : decide (L + 1 ≤ q) = false := by simp; omega
                have hpi : (p' : Int) < ((L + 1 : Nat) : Int) := by omega
                have hpi2 : (p' : Int) < (L : Int) + 1 := by omega
                have hqi : (q : Int) < ((L + 1 : Nat) : Int) := by omega
                have hqi2 : (q : Int) < (L : Int) + 1 := by omega
                have hb1 := (eC E p').toNat_lt
                have hb2 := C.toNat_lt
                have hlt2 : (C.toNat : Int) < ((eC E p').toNat : Int) := by rw [UInt8.lt_iff_toNat_lt] at hxx; omega
                have HXX := hideH hxx
                have HPQ := hideH hpq
                clear hxx hx d5 fz5 hpq
                generalize hXe : eC E p' = X at cu0 hlt2 hb1
                generalize hYe : eT E p' = Y at cu1
                have HXe := hideH hXe
                have HYe := hideH hYe
                clear hXe hYe
                go_wp2_with fail
                go_quiet (fail)
                obtain ⟨W4, hW4⟩ : ∃ W4, W4 = wr.drewN nq := ⟨_, rfl⟩
                have hB4 : Below wr.heap.size wr W4 := by rw [hW4]; exact below_drewN (Below.refl _ _) _
                simp only [← hW4]
                clear hW4
                have O4 := hideH (own_on HO3.out hB4)
                have BW4 := hideH (bthen HV.out hB4)
                have ga0 := cell_on cu0 hB4
                have ga1 := cell_on cu1 hB4
                have gb0 := cell_on cv0 hB4
                have gb1 := cell_on cv1 hB4
                have hg5 : g4 < W4.heap.size := (own_lt O4.out rfl).2
                clear hB4 cu0 cu1 cv0 cv1
                have hne1 : ¬ (g4 = W4.heap.size) := by omega
                have hne2 : ¬ (g4 = W4.heap.size + 1) := by omega
                go_wp2_with fail
                go_region_held3 (fun v => v.cell? ⟨g4, p' * 2, none⟩ = some (.int .u8 (X.toNat : Int)) ∧ v.cell? ⟨g4, p' * 2 + 1, none⟩ = some (.int .i64 Y) ∧ v.cell? ⟨g4, q * 2, none⟩ = some (.int .u8 (C.toNat : Int)) ∧ v.cell? ⟨g4, q * 2 + 1, none⟩ = some (.int .i64 T.length))
                  (first | (exact ⟨ga0, ga1, gb0, gb1⟩) | go_keep)
                  (first | fail)
                all_goals
                  clear ga0 ga1 gb0 gb1
                · obtain ⟨W5, hW5⟩ : ∃ W5, W5 = ((W4.alloc (.cells #[.int .u8 (X.toNat : Int), .int .i64 Y] 45)).alloc (.cells #[.int .u8 (C.toNat : Int), .int .i64 T.length] 45)).drew := ⟨_, rfl⟩
                  have tb := two_boxes W4 (.cells #[.int .u8 (X.toNat : Int), .int .i64 Y] 45) (.cells #[.int .u8 (C.toNat : Int), .int .i64 T.length] 45)
                  have hB5 : Below W4.heap.size W4 W5 := by rw [hW5]; exact tb.1.drew
                  obtain ⟨bx, hbx⟩ : ∃ bx, bx = W4.heap.size := ⟨_, rfl⟩
                  obtain ⟨bz, hby⟩ : ∃ bz, bz = W4.heap.size + 1 := ⟨_, rfl⟩
                  have P5 : Hid (W5.heap[bx]? = some (.cells #[.int .u8 (X.toNat : Int), .int .i64 Y] 45)) := by show _ = _; rw [hW5, hbx]; exact tb.2.1
                  have R5 : Hid (W5.heap[bz]? = some (.cells #[.int .u8 (C.toNat : Int), .int .i64 T.length] 45)) := by show _ = _; rw [hW5, hby]; exact tb.2.2
                  have hnx : bx ≠ g4 := by omega
                  have hny : bz ≠ g4 := by omega
                  simp only [← hW5, ← hby]
                  simp only [← hbx]
                  clear hW5 tb hbx hby
                  have O5 := hideH (own_on O4.out hB5)
                  have BW5 := hideH (bthen BW4.out hB5)
                  clear hB5 O4 BW4
                  rename ∀ (a : Act) (w : World), _ → _ => hcont
                  refine hcont _ _ ?_
                  clear hcont
                  refine wp_seq_k (fun K0 hK0 => ?_)
                  have HK0 := hideH hK0
                  clear hK0
                  obtain ⟨y0, y1⟩ := cell2 R5.out
                  obtain ⟨cu0, cu1⟩ := put_ahead E (p := p') (by have := HLn.out; have := HPQ.out; omega) C T.length
                  rw [← HPQ.out, ← O5.out.cellAt _ (by have := HPQ.out; omega)] at cu0 cu1
                  have f0 := O5.out.frozenAt (p' * 2)
                  have f1 := O5.out.frozenAt (p' * 2 + 1)
                  go_wp2_with fail
                  refine HK0.out _ _ ?_
                  clear HK0 y0 y1 cu0 cu1 f0 f1
                  obtain ⟨W6, hW6⟩ : ∃ W6, W6 = set2 W5 g4 (p' * 2) C T.length := ⟨_, rfl⟩
                  have O6 := hideH (set2_own O5.out (p' * 2) C T.length)
                  rw [← hW6] at O6
                  have P6 : Hid (W6.heap[bx]? = some (.cells #[.int .u8 (X.toNat : Int), .int .i64 Y] 45)) := by show _ = _; rw [hW6, set2_other hnx]; exact P5.out
                  have BW6 : Hid (Below w2.heap.size w2 W6) := by show Below _ _ _; rw [hW6]; exact set2_below BW5.out hg4 _ _ _
                  unfold set2 at hW6
                  simp only [← hW6]
                  clear hW6 P5 R5 BW5 O5
                  obtain ⟨x0, x1⟩ := cell2 P6.out
                  obtain ⟨cv0, cv1⟩ := put_here E (p := q) (by have := HLn.out; omega) C T.length
                  have cz0 : W6.cell? ⟨g4, q * 2, none⟩ = some (.int .u8 (C.toNat : Int)) := by
                    rw [O6.out.cellAt _ (by omega), List.getElem?_set_ne (by have := HPQ.out; omega), List.getElem?_set_ne (by have := HPQ.out; omega)]
                    exact cv0
                  have cz1 : W6.cell? ⟨g4, q * 2 + 1, none⟩ = some (.int .i64 T.length) := by
                    rw [O6.out.cellAt _ (by omega), List.getElem?_set_ne (by have := HPQ.out; omega), List.getElem?_set_ne (by have := HPQ.out; omega)]
                    exact cv1
                  clear cv0 cv1
                  have f0 := O6.out.frozenAt (q * 2)
                  have f1 := O6.out.frozenAt (q * 2 + 1)
                  go_wp2_with fail
                  clear x0 x1 cz0 cz1 f0 f1
                  obtain ⟨W7, hW7⟩ : ∃ W7, W7 = set2 W6 g4 (q * 2) X Y := ⟨_, rfl⟩
                  have O7 : Hid (W7.ownsRow w2.heap.size 45 2 (.slice (some ⟨g4, 0, none⟩) (L + 1) q4) (L + 1) (ecells (put1 E p' C T.length))) := by
                    have h1 := set2_own O6.out (q * 2) X Y
                    rw [← hW7] at h1
                    have h2 := put_back E (p := p') (by have := HLn.out; have := HPQ.out; omega) C T.length
                    rw [← HPQ.out, HXe.out, HYe.out] at h2
                    rw [h2] at h1
                    exact h1
                  have BW7 : Hid (Below w2.heap.size w2 W7) := by show Below _ _ _; rw [hW7]; exact set2_below BW6.out hg4 _ _ _
                  unfold set2 at hW7
                  simp only [← hW7]
                  clear hW7 P6 BW6 O6
                  try simp only [← hsa]
                  go_roundw
                  case rel => exact ⟨p', by have := HPQ.out; omega, by first | rfl | go_num, O7, fun i h1 h2 => by
                    by_cases e : i = p'
                    · rw [e]; exact HXX.out
                    · exact HG.out i (by have := HPQ.out; omega) h2, BW7⟩
                  case measure => have := HPQ.out; simp [intOf]; omega
                · obtain ⟨W5, hW5⟩ : ∃ W5, W5 = ((W4.alloc (.cells #[.int .u8 (C.toNat : Int), .int .i64 T.length] 45)).alloc (.cells #[.int .u8 (X.toNat : Int), .int .i64 Y] 45)).drew := ⟨_, rfl⟩
                  have tb := two_boxes W4 (.cells #[.int .u8 (C.toNat : Int), .int .i64 T.length] 45) (.cells #[.int .u8 (X.toNat : Int), .int .i64 Y] 45)
                  have hB5 : Below W4.heap.size W4 W5 := by rw [hW5]; exact tb.1.drew
                  obtain ⟨bx, hbx⟩ : ∃ bx, bx = W4.heap.size + 1 := ⟨_, rfl⟩
                  obtain ⟨bz, hby⟩ : ∃ bz, bz = W4.heap.size := ⟨_, rfl⟩
                  have P5 : Hid (W5.heap[bx]? = some (.cells #[.int .u8 (X.toNat : Int), .int .i64 Y] 45)) := by show _ = _; rw [hW5, hbx]; exact tb.2.2
                  have R5 : Hid (W5.heap[bz]? = some (.cells #[.int .u8 (C.toNat : Int), .int .i64 T.length] 45)) := by show _ = _; rw [hW5, hby]; exact tb.2.1
                  have hnx : bx ≠ g4 := by omega
                  have hny : bz ≠ g4 := by omega
                  simp only [← hW5, ← hbx]
                  simp only [← hby]
                  clear hW5 tb hbx hby
                  have O5 := hideH (own_on O4.out hB5)
                  have BW5 := hideH (bthen BW4.out hB5)
                  clear hB5 O4 BW4
                  rename ∀ (a : Act) (w : World), _ → _ => hcont
                  refine hcont _ _ ?_
                  clear hcont
                  refine wp_seq_k (fun K0 hK0 => ?_)
                  have HK0 := hideH hK0
                  clear hK0
                  obtain ⟨y0, y1⟩ := cell2 R5.out
                  obtain ⟨cu0, cu1⟩ := put_ahead E (p := p') (by have := HLn.out; have := HPQ.out; omega) C T.length
                  rw [← HPQ.out, ← O5.out.cellAt _ (by have := HPQ.out; omega)] at cu0 cu1
                  have f0 := O5.out.frozenAt (p' * 2)
                  have f1 := O5.out.frozenAt (p' * 2 + 1)
                  go_wp2_with fail
                  refine HK0.out _ _ ?_
                  clear HK0 y0 y1 cu0 cu1 f0 f1
                  obtain ⟨W6, hW6⟩ : ∃ W6, W6 = set2 W5 g4 (p' * 2) C T.length := ⟨_, rfl⟩
                  have O6 := hideH (set2_own O5.out (p' * 2) C T.length)
                  rw [← hW6] at O6
                  have P6 : Hid (W6.heap[bx]? = some (.cells #[.int .u8 (X.toNat : Int), .int .i64 Y] 45)) := by show _ = _; rw [hW6, set2_other hnx]; exact P5.out
                  have BW6 : Hid (Below w2.heap.size w2 W6) := by show Below _ _ _; rw [hW6]; exact set2_below BW5.out hg4 _ _ _
                  unfold set2 at hW6
                  simp only [← hW6]
                  clear hW6 P5 R5 BW5 O5
                  obtain ⟨x0, x1⟩ := cell2 P6.out
                  obtain ⟨cv0, cv1⟩ := put_here E (p := q) (by have := HLn.out; omega) C T.length
                  have cz0 : W6.cell? ⟨g4, q * 2, none⟩ = some (.int .u8 (C.toNat : Int)) := by
                    rw [O6.out.cellAt _ (by omega), List.getElem?_set_ne (by have := HPQ.out; omega), List.getElem?_set_ne (by have := HPQ.out; omega)]
                    exact cv0
                  have cz1 : W6.cell? ⟨g4, q * 2 + 1, none⟩ = some (.int .i64 T.length) := by
                    rw [O6.out.cellAt _ (by omega), List.getElem?_set_ne (by have := HPQ.out; omega), List.getElem?_set_ne (by have := HPQ.out; omega)]
                    exact cv1
                  clear cv0 cv1
                  have f0 := O6.out.frozenAt (q * 2)
                  have f1 := O6.out.frozenAt (q * 2 + 1)
                  go_wp2_with fail
                  clear x0 x1 cz0 cz1 f0 f1
                  obtain ⟨W7, hW7⟩ : ∃ W7, W7 = set2 W6 g4 (q * 2) X Y := ⟨_, rfl⟩
                  have O7 : Hid (W7.ownsRow w2.heap.size 45 2 (.slice (some ⟨g4, 0, none⟩) (L + 1) q4) (L + 1) (ecells (put1 E p' C T.length))) := by
                    have h1 := set2_own O6.out (q * 2) X Y
                    rw [← hW7] at h1
                    have h2 := put_back E (p := p') (by have := HLn.out; have := HPQ.out; omega) C T.length
                    rw [← HPQ.out, HXe.out, HYe.out] at h2
                    rw [h2] at h1
                    exact h1
                  have BW7 : Hid (Below w2.heap.size w2 W7) := by show Below _ _ _; rw [hW7]; exact set2_below BW6.out hg4 _ _ _
                  unfold set2 at hW7
                  simp only [← hW7]
                  clear hW7 P6 BW6 O6
                  try simp only [← hsa]
                  go_roundw
                  case rel => exact ⟨p', by have := HPQ.out; omega, by first | rfl | go_num, O7, fun i h1 h2 => by
                    by_cases e : i = p'
                    · rw [e]; exact HXX.out
                    · exact HG.out i (by have := HPQ.out; omega) h2, BW7⟩
                  case measure => have := HPQ.out; simp [intOf]; omega
              · have HCn : Hid (q = cnt E C) := by
                  show _ = _
                  refine (cnt_stop HR.out HED.out (by have := HLn.out; omega) ?_ ?_).symm
                  · rcases Nat.eq_zero_or_pos q with h | h
                    · exact .inl h
                    · exact .inr (fun h2 => hx ⟨h, h2⟩)
                  · intro i h1 h2
                    exact HG.out i h1 (by rw [HLn.out]; exact h2)
                have HQL : Hid (q = 0 ∨ 0 < q) := by show _ ∨ _; omega
                have hxx : 0 < q → ¬ (C < eC E (q - 1)) := fun h h2 => hx ⟨h, h2⟩
                have HXX := hideH hxx
                clear hx hxx
                have O4 : Hid (∀ W, Below wr.heap.size wr W → OwT (W.setCell ⟨g, a' * 2, none⟩ (.slice (some ⟨g4, 0, none⟩) (L + 1) q4)) w.heap.size (.slice (some ⟨g, 0, none⟩) T.length cap) (fun j => if j = a' then (.slice (some ⟨g4, 0, none⟩) (L + 1) q4) else vs j) (T.set a' ⟨put1 E (cnt E C) C T.length, (nod T a').wd⟩)) := fun W hW => by
                  refine OwT.edge2 HOw.out hal (bthen HV.out hW) ?_ hg4
                  rw [← HCn.out, put1_len _ _ _ _ (by have := HLn.out; omega), ← HLn.out]
                  exact owns_mono (own_on HO3.out hW) HBq.out.size
                have B4 : Hid (∀ W v, Below wr.heap.size wr W → Below w.heap.size w (W.setCell ⟨g, a' * 2, none⟩ v)) := fun W v hW => (HBq.out.trans ((bthen HV.out hW).mono HBq.out.size)).setCell (p := ⟨g, a' * 2, none⟩) hbg _
                rcases HQL.out with hq0 | hq0
                focus
                  clear HQL HXX
                  subst hq0
                  go_wp2_with fail
                  go_quiet (fail)
                rotate_left
                focus
                  clear HQL
                  obtain ⟨p', hpq⟩ : ∃ p', q = p' + 1 := ⟨q - 1, by omega⟩
                  have hxx : ¬ (C < eC E p') := by have := HXX.out hq0; rwa [show q - 1 = p' by omega] at this
                  clear HXX
                  obtain ⟨cu0, cu1⟩ := put_ahead E (p := p') (by have := HLn.out; omega) C T.length
                  obtain ⟨cv0, cv1⟩ := put_here E (p := q) (by have := HLn.out; omega) C T.length
                  rw [← hpq] at cu0 cu1
                  rw [← HO3.out.cellAt _ (by omega)] at cu0 cu1 cv0 cv1
                  have hwp : IntKind.i64.wrap ((q : Int) - 1) = (p' : Int) := by rw [wrap_nn (by omega) (by omega)]; omega
                  have hp0 : decide ((p' : Int) < 0) = false := by simp
                  have hqq0 : decide ((q : Int) < 0) = false := by simp
                  have hgi : (0 : Int) < (q : Int) := by omega
                  have hpd : decide (L + 1 ≤ p') = false := by simp; omega
                  have hqd : decide (L + 1 ≤ q) = false := by simp; omega
                  have hpi : (p' : Int) < ((L + 1 : Nat) : Int) := by omega
                  have hpi2 : (p' : Int) < (L : Int) + 1 := by omega
                  have hqi : (q : Int) < ((L + 1 : Nat) : Int) := by omega
                  have hqi2 : (q : Int) < (L : Int) + 1 := by omega
                  have hb1 := (eC E p').toNat_lt
                  have hb2 := C.toNat_lt
                  have hlt2 : ¬ ((C.toNat : Int) < ((eC E p').toNat : Int)) := by rw [UInt8.lt_iff_toNat_lt] at hxx; omega
                  clear hxx hpq
                  generalize eC E p' = X at cu0 hlt2 hb1
                  generalize eT E p' = Y at cu1
                  go_wp2_with fail
                  go_quiet (fail)
                  clear cu0 cu1 cv0 cv1
                all_goals
                  obtain ⟨W5, hW5⟩ : ∃ W5, W5 = wr.drewN nq := ⟨_, rfl⟩
                  have hB5 : Below wr.heap.size wr W5 := by rw [hW5]; exact below_drewN (Below.refl _ _) _
                  simp only [← hW5]
                  clear hW5
                  have d6 := cell_on d5 hB5
                  have hgw5 : g < wr.heap.size := by have := HV.out.size; omega
                  have fz6 : W5.frozen? ⟨g, a' * 2, none⟩ = false := by rw [hB5.frozen (p := ⟨g, a' * 2, none⟩) hgw5]; exact fz5
                  have O6 := hideH (O4.out W5 hB5)
                  have B6 := hideH (B4.out W5 (.slice (some ⟨g4, 0, none⟩) (L + 1) q4) hB5)
                  generalize (fun j => if j = a' then (Value.slice (some ⟨g4, 0, none⟩) (L + 1) q4) else vs j) = VS at O6
                  clear hB5 d5 fz5 O4 B4
                  have HBn : Hid (Below (W5.setCell ⟨g, a' * 2, none⟩ (.slice (some ⟨g4, 0, none⟩) (L + 1) q4)).heap.size (W5.setCell ⟨g, a' * 2, none⟩ (.slice (some ⟨g4, 0, none⟩) (L + 1) q4)) ((W5.setCell ⟨g, a' * 2, none⟩ (.slice (some ⟨g4, 0, none⟩) (L + 1) q4)).alloc (.cells #[.slice none 0 0, .int .i64 (-1)] 43))) := (Below.refl _ _).alloc (Nat.le_refl _) _
                  have O7 := hideH (O6.out.on HBn.out)
                  have R7 : Hid (((W5.setCell ⟨g, a' * 2, none⟩ (.slice (some ⟨g4, 0, none⟩) (L + 1) q4)).alloc (.cells #[.slice none 0 0, .int .i64 (-1)] 43)).ownsRow w.heap.size 43 2 (.slice (some ⟨g, 0, none⟩) T.length cap) T.length (ncells VS (T.set a' ⟨put1 E (cnt E C) C T.length, (nod T a').wd⟩) T.length)) := by
                    have := O7.out.row
                    rw [List.length_set] at this
                    exact this
                  have HNw : Hid (∀ j u, [Value.slice none 0 0, Value.int .i64 (-1)][j]? = some u → ((W5.setCell ⟨g, a' * 2, none⟩ (.slice (some ⟨g4, 0, none⟩) (L + 1) q4)).alloc (.cells #[.slice none 0 0, .int .i64 (-1)] 43)).cell? ((⟨W5.heap.size, 0, none⟩ : Addr).add j) = some u) := by
                    have h := World.news_of_block (World.alloc_heap_new (W5.setCell ⟨g, a' * 2, none⟩ (.slice (some ⟨g4, 0, none⟩) (L + 1) q4)) (.cells #[.slice none 0 0, .int .i64 (-1)] 43))
                    rw [show (W5.setCell ⟨g, a' * 2, none⟩ (.slice (some ⟨g4, 0, none⟩) (L + 1) q4)).heap.size = W5.heap.size by simp] at h
                    exact h
                  have HBs : Hid (w.heap.size ≤ ((W5.setCell ⟨g, a' * 2, none⟩ (.slice (some ⟨g4, 0, none⟩) (L + 1) q4)).alloc (.cells #[.slice none 0 0, .int .i64 (-1)] 43)).heap.size) := by
                    have h1 := B6.out.size
                    have h3 := HBn.out.size
                    show _ ≤ _
                    omega
                  go_wp2_with (at_builtin; refine wpList_append_lies _ rfl _ _ 38 rfl w.heap.size 43 i0 _ 2 32 Tryz.underlying38 hi hz0 hz1 hz2 rfl (by decide) _ _ _ rfl R7.out ⟨W5.heap.size, 0, none⟩ 1 1 [.slice none 0 0, .int .i64 (-1)] rfl rfl HNw.out (by simp [Value.oneCell']) (by decide) (by unfold maxLen; omega) (by omega) HBs.out _ rfl ?_; intro g8 q8 w8 hown8 hgrow8 hat8 hl8)
                  have HI8 : Hid (bJ w.heap.size w t s (grow T a' s[m]) (.slice (some ⟨g8, 0, none⟩) (grow T a' s[m]).length q8) (m + 1) T.length w8) := by
                    have h5 := OwT.node (g := g8) (cap := q8) O7.out hgrow8 (by rw [List.length_set]; exact hown8) hat8 (Nat.le_refl _)
                    rw [HC.out, HE.out, ← grow_put, List.length_set] at h5
                    rw [grow_len]
                    have hed := HED.out
                    rw [HE.out, HC.out] at hed
                    exact bJ_next hms h5 HK2.out HPp.out HLy.out hed HTl.out HWd.out (below_own (B6.out.trans (HBn.out.mono (by have := B6.out.size; omega))) (Nat.le_refl _) R7.out hgrow8)
                  clear hown8 hgrow8 hat8 hl8 O6 O7 R7 HBn HNw HBs B6
                  try simp only [← hsa]
                  go_roundw
                  case rel => exact ⟨grow T a' s[m], m + 1, T.length, g8, q8, by omega, by rw [grow_len], by go_num, rfl, HI8⟩
                  case measure => simp [intOf]; omega
        · have hme : m = s.size := by omega
          have HEnd : Hid (bldN (wl n ss) (i + 1) = mark T a' i) := by
            show _ = _
            rw [HNx.out]
            unfold addw
            rw [hlay, List.drop_of_length_le (by rw [sz_len]; omega)]
            rfl
          have f1 := hfz (a' * 2 + 1)
          have hw0 := hwd a'
          have HO2 := hideH hO
          have HB2 := hideH hbel
          have hni : ¬ ((m : Int) < (s.size : Int)) := by omega
          clear hO hk hp hlay hTl hwd hbel hcells hfz HA d0 hmi hme
          by_cases hq : (nod T a').wd = -1
          · have HE2 : Hid (bldN (wl n ss) (i + 1) = T.set a' ⟨(nod T a').es, i⟩) := by show _ = _; rw [HEnd.out]; unfold mark; rw [if_pos hq]
            rw [hq] at d1
            clear hq HEnd hw0
            have O9 : Hid (OwT (wr.setCell ⟨g, a' * 2 + 1, none⟩ (.int .i64 i)) w.heap.size (.slice (some ⟨g, 0, none⟩) T.length cap) vs (bldN (wl n ss) (i + 1))) := by
              show OwT _ _ _ _ _
              rw [HE2.out]
              exact HO2.out.word i hal
            have B9 : Hid (Below w.heap.size w (wr.setCell ⟨g, a' * 2 + 1, none⟩ (.int .i64 i))) := HB2.out.setCell (p := ⟨g, a' * 2 + 1, none⟩) hbg _
            go_wp2_with fail
            try simp only [← hsa]
            go_roundw
            case rel => exact ⟨i + 1, vs, by omega, by go_num, O9, B9⟩
            case measure => simp [intOf]; omega
          · have HE2 : Hid (OwT wr w.heap.size (.slice (some ⟨g, 0, none⟩) T.length cap) vs (bldN (wl n ss) (i + 1))) := by show OwT _ _ _ _ _; rw [HEnd.out]; unfold mark; rw [if_neg hq]; exact HO2.out
            have hq0 : ¬ ((nod T a').wd < 0) := by omega
            generalize (nod T a').wd = wd at d1 hq0
            clear hq HEnd hw0
            go_wp2_with fail
            try simp only [← hsa]
            go_roundw
            case rel => exact ⟨i + 1, vs, by omega, by go_num, HE2, HB2⟩
            case measure => simp [intOf]; omega
    · obtain rfl : i = n := by omega
      have hni : ¬ ((i : Int) < (i : Int)) := by omega
      go_wp2_with fail
      go_ret
      unfold adP
      exact ⟨_, vs0, rfl, HO.out, HW.out⟩
end Go.Proofs.YtfjjdicgekgbeaaGreatDoor.Tri
