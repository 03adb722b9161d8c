/- The document's own: within, BuildError, edgeOf, CheckTrie. -/
import Derived.Test.YthkdjklpegmnnaaTrieO
namespace Go.Proofs.Ythkdjklpegmnnaa.Tri
open Go Go.RowKit Go.Maps
set_option linter.unusedVariables false

theorem within_c (x lo hi : Int) (w : World) : Calls Try.prog 21 #[.int .i64 x, .int .i64 lo, .int .i64 hi] w fun e w' => e = .returned (.bool (decide (lo ≤ x ∧ x ≤ hi))) ∧ w' = w := by
  by_cases h1 : lo ≤ x
  · by_cases h2 : x ≤ hi
    · go_enter Try.func21, Try.ntmps21
      go_wp2
      go_ret
      exact ⟨ret_bool (by simp [h1, h2]), rfl⟩
    · go_enter Try.func21, Try.ntmps21
      go_wp2
      go_ret
      exact ⟨ret_bool (by simp; omega), rfl⟩
  · go_enter Try.func21, Try.ntmps21
    go_wp2
    go_ret
    exact ⟨ret_bool (by simp; omega), rfl⟩
theorem within_b (x lo hi : Int) (B : Bool) (h : decide (lo ≤ x ∧ x ≤ hi) = B) (w : World) : Calls Try.prog 21 #[.int .i64 x, .int .i64 lo, .int .i64 hi] w fun e w' => e = .returned (.bool B) ∧ w' = w := by
  rw [← h]; exact within_c x lo hi w
set_option maxHeartbeats 4000000 in
theorem BuildError_c (a : Option Addr) (n c : Nat) (ss : Nat → ByteArray) (w : World) (hn : n ≤ maxLen) (hP : TxA w a n ss) (hf : ∀ j, j < n → (ss j).size ≤ maxLen) :
    Calls Try.prog 9 #[.slice a n c] w fun e w' => ckP (bldE n ss) w e w' := by
  have HP := hideH hP
  have HF := hideH hf
  unfold maxLen at hn
  clear hP hf
  by_cases h40 : 40 < n
  · have h40i : (40 : Int) < (n : Int) := by omega
    have HE := hideH (bldE_many ss h40)
    go_enter Try.func9, Try.ntmps9
    go_wp2_with fail
    go_ret
    unfold ckP
    exact ⟨ret_int HE.out.symm, Below.refl _ _⟩
  · have h40i : ¬ ((40 : Int) < (n : Int)) := by omega
    go_enter Try.func9, Try.ntmps9
    go_wp2_with fail
    go_loopw [3] (fun x v => ∃ k : Nat, k ≤ n ∧ x = .int .i64 k ∧ Hid (∀ j, j < k → okW (ss j) = true) ∧ Hid (Below w.heap.size w v)) (fun x _ => n - (intOf x).toNat)
    case atStart => exact ⟨0, Nat.zero_le _, rfl, fun i h1 => by omega, Below.refl _ _⟩
    case round =>
      obtain ⟨k, hk, rfl, HR, HW⟩ := hrel
      by_cases hlt : k < n
      · rcases HP.out.on HW.out with h0 | ⟨b, off, hsa, hcs⟩
        · omega
        have d0 := hcs k hlt
        have hsz := HF.out k hlt
        unfold maxLen at hsz
        clear hcs
        have hki : (k : Int) < (n : Int) := by omega
        by_cases q : okW (ss k) = true
        · have HWi := hideH (fun v => within_b (ss k).size 1 12 true (by have := okW_sz q; simp; omega) v)
          have HQ := hideH q
          clear q
          go_wp2_with (go_at_call 21; refine (HWi.out _).mono ?_; rintro e w1 ⟨rfl, rfl⟩)
          try simp only [← hsa]
          go_roundw
          case rel => exact ⟨k + 1, by omega, by go_num, fun j h1 => by
            by_cases hi : j = k
            · subst hi; exact HQ.out
            · exact HR.out j (by omega), HW⟩
          case measure => simp [intOf]; omega
        · have q' : okW (ss k) = false := by simpa using q
          have HWi := hideH (fun v => within_b (ss k).size 1 12 false (by unfold okW at q'; simp at q' ⊢; omega) v)
          have HE := hideH (bldE_bad (ss := ss) (by omega) hlt q')
          clear q q'
          go_wp2_with (go_at_call 21; refine (HWi.out _).mono ?_; rintro e w1 ⟨rfl, rfl⟩)
          go_ret
          unfold ckP
          exact ⟨ret_int HE.out.symm, HW.out⟩
      · obtain rfl : k = n := by omega
        have HE := hideH (bldE_ok (ss := ss) (by omega) HR.out)
        go_wp2_with fail
        go_ret
        unfold ckP
        exact ⟨ret_int HE.out.symm, HW.out⟩
/-- whereto a byte leads from a node, or -1 -/
def eOf (es : List (UInt8 × Int)) (c : UInt8) : Int := (edg es c).getD (-1)
theorem edg_first {l : List (UInt8 × Int)} {c : UInt8} {k : Nat} (hk : k < l.length) (h : eC l k = c) (h0 : ∀ j, j < k → eC l j ≠ c) : edg l c = some (eT l k) := by
  unfold edg
  have : l.find? (fun e => e.1 == c) = some l[k] := by
    rw [List.find?_eq_some_iff_getElem]
    refine ⟨by rw [eC_at hk]; simpa using h, k, hk, rfl, fun j hj => ?_⟩
    have := h0 j hj
    rw [eC_at (by omega)]
    simpa using this
  rw [this, eC_at hk]; rfl
set_option maxHeartbeats 4000000 in
theorem edgeOf_c (ea : Option Addr) (ec : Nat) (l : List (UInt8 × Int)) (wd : Int) (c : UInt8) (w : World) (hl : l.length ≤ maxLen) (hP : EdL w ea l) :
    Calls Try.prog 22 #[.agg #[.slice ea l.length ec, .int .i64 wd], .int .u8 (c.toNat : Int)] w fun e w' => ckP (eOf l c) w e w' := by
  have HP := hideH hP
  have hb := hideH ((Below.refl _ w).alloc (Nat.le_refl _) (.cells #[.slice ea l.length ec, .int .i64 wd] 47))
  have hx := hideH (heap_alloc_new w (.cells #[.slice ea l.length ec, .int .i64 wd] 47))
  unfold maxLen at hl
  have hc255 := c.toNat_lt
  obtain ⟨n, hn⟩ : ∃ n, n = l.length := ⟨_, rfl⟩
  have HN := hideH hn
  rw [← hn] at hl hb hx ⊢
  clear hn hP
  go_enter Try.func22, Try.ntmps22
  go_wp2_with fail
  go_loopw [5] (fun x v => ∃ k : Nat, k ≤ n ∧ x = .int .i64 k ∧ Hid (∀ j, j < k → eC l j ≠ c) ∧ Hid (Below w.heap.size w v) ∧ Hid (v.heap[w.heap.size]? = some (.cells #[.slice ea n ec, .int .i64 wd] 47))) (fun x _ => n - (intOf x).toNat)
  case atStart => exact ⟨0, Nat.zero_le _, rfl, fun i h1 => by omega, hb, hx⟩
  case round =>
    obtain ⟨k, hk, rfl, HR, HW, HX⟩ := hrel
    have x0 : wr.cell? ⟨w.heap.size, 0, none⟩ = some (.slice ea n ec) := by simp [World.cell?, HX.out]
    by_cases hlt : k < n
    · rcases HP.out.on HW.out with h0 | ⟨b, off, hsa, hcs⟩
      · have := HN.out; omega
      obtain ⟨d0, d1⟩ := hcs k (by have := HN.out; omega)
      clear hcs
      have hki : (k : Int) < (n : Int) := by omega
      have hkc := (eC l k).toNat_lt
      by_cases hq : eC l k = c
      · have hqb : (((eC l k).toNat : Int) == (c.toNat : Int)) = true := by simp [hq]
        have HE : Hid (eOf l c = eT l k) := by show _ = _; unfold eOf; rw [edg_first (by have := HN.out; omega) hq HR.out]; rfl
        clear hq
        go_wp2_with fail
        go_ret
        unfold ckP
        exact ⟨ret_int HE.out.symm, HW.out⟩
      · have hqb : (((eC l k).toNat : Int) == (c.toNat : Int)) = false := by
          rw [beq_eq_false_iff_ne]
          intro e
          exact hq (UInt8.toNat_inj.1 (by omega))
        have HQ := hideH hq
        clear hq
        go_wp2_with fail
        try simp only [← hsa]
        go_roundw
        case rel => exact ⟨k + 1, by omega, by go_num, fun j h1 => by
          by_cases hi : j = k
          · subst hi; exact HQ.out
          · exact HR.out j (by omega), HW, HX⟩
        case measure => simp [intOf]; omega
    · obtain rfl : k = n := by omega
      have HE : Hid (eOf l c = -1) := by show _ = _; unfold eOf; rw [edg_no (fun j hj => HR.out j (by have := HN.out; omega))]; rfl
      go_wp2_with fail
      go_ret
      unfold ckP
      exact ⟨ret_int HE.out.symm, HW.out⟩
/-- the first k edges of a node are right -/
def eOk (l : List (UInt8 × Int)) (i n : Int) (k : Nat) : Prop := ∀ j, j < k → (i < eT l j ∧ eT l j < n) ∧ (1 ≤ j → eC l (j - 1) < eC l j)
theorem okN_iff (t : List Nd) (i : Nat) : okN t i = true ↔ -1 ≤ (nod t i).wd ∧ eOk (nod t i).es i t.length (nod t i).es.length := by
  unfold okN eOk
  rw [Bool.and_eq_true, Bool.and_eq_true, decide_eq_true_eq, risB_iff, leaB_iff]
  constructor
  · rintro ⟨h1, h2, h3⟩
    exact ⟨h1, fun j hj => ⟨h3 j hj, fun h => h2 j h hj⟩⟩
  · rintro ⟨h1, h2⟩
    exact ⟨h1, fun j hj h => (h2 j h).2 hj, fun j hj => (h2 j hj).1⟩
end Go.Proofs.Ythkdjklpegmnnaa.Tri
