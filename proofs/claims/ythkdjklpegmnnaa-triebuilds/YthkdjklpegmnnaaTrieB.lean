/- Nodes in memory; the contracts of package trie: rise, leadOn, Check. -/
import Derived.Test.YthkdjklpegmnnaaTrieA
namespace Go.Proofs.Ythkdjklpegmnnaa.Tri
open Go Go.RowKit
set_option linter.unusedVariables false

/-- two cells each, in a row, the edges of each wherever they lie -/
def TrL (w : World) (a : Option Addr) (t : List Nd) : Prop := t.length = 0 ∨ ∃ b off, a = some ⟨b, off, none⟩ ∧ ∀ j, j < t.length → ∃ ea ec, w.cell? ⟨b, off + j * 2, none⟩ = some (.slice ea (nod t j).es.length ec) ∧ w.cell? ⟨b, off + j * 2 + 1, none⟩ = some (.int .i64 (nod t j).wd) ∧ EdL w ea (nod t j).es
theorem TrL.on {w w' : World} {a : Option Addr} {t : List Nd} (p : TrL w a t) (hb : Below w.heap.size w w') : TrL w' a t := by
  rcases p with p | ⟨b, off, h1, h2⟩
  · exact .inl p
  · exact .inr ⟨b, off, h1, fun j hj => by
      obtain ⟨ea, ec, x1, x2, x3⟩ := h2 j hj
      exact ⟨ea, ec, cell_on x1 hb, cell_on x2 hb, x3.on hb⟩⟩
theorem wrap_nn {n : Int} (h0 : 0 ≤ n) (h1 : n < 9223372036854775808) : IntKind.i64.wrap n = n := by
  have h64 : IntKind.i64.bits = 64 := rfl
  have hsg : IntKind.i64.signed = true := rfl
  unfold IntKind.wrap
  rw [h64, hsg]
  simp only [Bool.true_and]
  rw [Int.emod_eq_of_lt h0 (by omega)]
  simp
  omega
/-- do edges rise? -/
def risB (l : List (UInt8 × Int)) : Bool := (List.range l.length).all fun i => decide (1 ≤ i → eC l (i - 1) < eC l i)
theorem ris_adj {l : List (UInt8 × Int)} (h : ∀ i, 1 ≤ i → i < l.length → eC l (i - 1) < eC l i) : ∀ (j i : Nat), i < j → j < l.length → eC l i < eC l j
  | 0, i, h1, _ => by omega
  | j + 1, i, h1, h2 => by
    have h3 := h (j + 1) (by omega) h2
    simp only [Nat.add_sub_cancel] at h3
    rcases Nat.lt_or_ge i j with h4 | h4
    · exact UInt8.lt_trans (ris_adj h j i h4 (by omega)) h3
    · obtain rfl : i = j := by omega
      exact h3
theorem risB_iff (l : List (UInt8 × Int)) : risB l = true ↔ ∀ i, 1 ≤ i → i < l.length → eC l (i - 1) < eC l i := by
  unfold risB
  simp only [List.all_eq_true, List.mem_range, decide_eq_true_eq]
  exact ⟨fun h i a b => h i b a, fun h i a b => h i b a⟩
theorem risB_rises {l : List (UInt8 × Int)} : risB l = true ↔ Rises l := by
  rw [risB_iff]
  constructor
  · intro h
    unfold Rises
    rw [List.pairwise_iff_getElem]
    intro i j hi hj hij
    rw [eC_at hi, eC_at hj]
    exact ris_adj h j i hij hj
  · intro h i h1 h2
    exact rises_at h (by omega) h2
def riP (P : Bool) (w : World) (e : Ending) (w' : World) : Prop := e = .returned (.bool P) ∧ Below w.heap.size w w'
set_option maxHeartbeats 4000000 in
theorem rise_c (a : Option Addr) (cap : Nat) (l : List (UInt8 × Int)) (w : World) (hl : l.length ≤ maxLen) (hP : EdL w a l) :
    Calls Try.prog 23 #[.slice a l.length cap] w fun e w' => riP (risB l) w e w' := by
  have HP := hideH hP
  unfold maxLen at hl
  obtain ⟨n, hn⟩ : ∃ n, n = l.length := ⟨_, rfl⟩
  have HN := hideH hn
  rw [← hn] at hl ⊢
  clear hn hP
  go_enter Try.func23, Try.ntmps23
  go_wp2_with fail
  go_loopw [3] (fun x3 v => ∃ k : Nat, (k ≤ n ∨ k = 0) ∧ x3 = .int .i64 ((k + 1 : Nat) : Int) ∧ Hid (∀ i, 1 ≤ i → i < k + 1 → i < n → eC l (i - 1) < eC l i) ∧ Hid (Below w.heap.size w v)) (fun x3 _ => n + 1 - (intOf x3).toNat)
  case atStart => exact ⟨0, .inr rfl, rfl, fun i h1 h2 => by omega, Below.refl _ _⟩
  case round =>
    obtain ⟨k, hk, rfl, HR, HW⟩ := hrel
    by_cases hlt : k + 1 < n
    · rcases HP.out.on HW.out with h0 | ⟨b, off, hsa, hcs⟩
      · have := HN.out; omega
      have d0 := (hcs k (by have := HN.out; omega)).1
      have d1 := (hcs (k + 1) (by have := HN.out; omega)).1
      clear hcs
      have hwk : IntKind.i64.wrap (k : Int) = (k : Int) := wrap_nn (by omega) (by omega)
      have hk1 : (k : Int) < (n : Int) := by omega
      have hk2 : (k : Int) + 1 < (n : Int) := by omega
      by_cases hq : ((eC l (k + 1)).toNat : Int) ≤ ((eC l k).toNat : Int)
      · go_wp2_with fail
        go_quiet (fail)
        go_wp2_with fail
        go_ret
        unfold riP
        refine ⟨ret_bool ?_, below_drewN HW.out _⟩
        symm
        rw [Bool.eq_false_iff]
        intro h
        have := (risB_iff l).1 h (k + 1) (by omega) (by have := HN.out; omega)
        simp only [Nat.add_sub_cancel] at this
        rw [UInt8.lt_iff_toNat_lt] at this
        omega
      · go_wp2_with fail
        go_quiet (fail)
        go_wp2_with fail
        try simp only [← hsa]
        go_roundw
        case rel => exact ⟨k + 1, by omega, by go_num, fun i h1 h2 h3 => by
          by_cases hi : i = k + 1
          · subst hi
            simp only [Nat.add_sub_cancel]
            rw [UInt8.lt_iff_toNat_lt]
            omega
          · exact HR.out i h1 (by omega) h3, below_drewN HW.out _⟩
        case measure => simp [intOf]; omega
    · have hlt2 : ¬ ((k : Int) + 1 < (n : Int)) := by omega
      go_wp2_with fail
      go_ret
      unfold riP
      refine ⟨ret_bool ?_, HW.out⟩
      symm
      rw [risB_iff]
      intro i h1 h2
      exact HR.out i h1 (by have := HN.out; omega) (by rw [HN.out]; exact h2)
/-- do edges lead on? -/
def leaB (l : List (UInt8 × Int)) (i n : Int) : Bool := (List.range l.length).all fun j => decide (i < eT l j ∧ eT l j < n)
theorem leaB_iff (l : List (UInt8 × Int)) (i n : Int) : leaB l i n = true ↔ ∀ j, j < l.length → i < eT l j ∧ eT l j < n := by
  unfold leaB
  simp only [List.all_eq_true, List.mem_range, decide_eq_true_eq]
set_option maxHeartbeats 4000000 in
theorem leadOn_c (a : Option Addr) (cap : Nat) (l : List (UInt8 × Int)) (i N : Int) (w : World) (hl : l.length ≤ maxLen) (hP : EdL w a l) :
    Calls Try.prog 24 #[.slice a l.length cap, .int .i64 i, .int .i64 N] w fun e w' => riP (leaB l i N) w e w' := by
  have HP := hideH hP
  unfold maxLen at hl
  obtain ⟨n, hn⟩ : ∃ n, n = l.length := ⟨_, rfl⟩
  have HN := hideH hn
  rw [← hn] at hl ⊢
  clear hn hP
  go_enter Try.func24, Try.ntmps24
  go_wp2_with fail
  go_loopw [11] (fun x v => ∃ k : Nat, k ≤ n ∧ x = .int .i64 k ∧ Hid (∀ j, j < k → i < eT l j ∧ eT l j < N) ∧ Hid (Below w.heap.size w v)) (fun x _ => n - (intOf x).toNat)
  case atStart => exact ⟨0, Nat.zero_le _, rfl, fun i h1 => by omega, Below.refl _ _⟩
  case round =>
    obtain ⟨k, hk, rfl, HR, HW⟩ := hrel
    by_cases hlt : k < n
    · rcases HP.out.on HW.out with h0 | ⟨b, off, hsa, hcs⟩
      · have := HN.out; omega
      obtain ⟨d0, d1⟩ := hcs k (by have := HN.out; omega)
      clear hcs
      have hk1 : (k : Int) < (n : Int) := by omega
      have hb := hideH ((Below.refl _ wr).alloc (Nat.le_refl _) (.cells #[.int .u8 ((eC l k).toNat : Int), .int .i64 (eT l k)] 52))
      by_cases hq : eT l k ≤ i
      · go_wp2_with fail
        go_ret
        unfold riP
        refine ⟨ret_bool ?_, bthen HW.out hb.out⟩
        symm
        rw [Bool.eq_false_iff]
        intro h
        have := ((leaB_iff l i N).1 h k (by have := HN.out; omega)).1
        omega
      · have hq' : i < eT l k := by omega
        by_cases hq2 : N ≤ eT l k
        · go_wp2_with fail
          go_ret
          unfold riP
          refine ⟨ret_bool ?_, bthen HW.out hb.out⟩
          symm
          rw [Bool.eq_false_iff]
          intro h
          have := ((leaB_iff l i N).1 h k (by have := HN.out; omega)).2
          omega
        · go_wp2_with fail
          try simp only [← hsa]
          go_roundw
          case rel => exact ⟨k + 1, by omega, by go_num, fun j h1 => by
            by_cases hi : j = k
            · subst hi
              omega
            · exact HR.out j (by omega), bthen HW.out hb.out⟩
          case measure => simp [intOf]; omega
    · have hlt2 : ¬ ((k : Int) < (n : Int)) := by omega
      go_wp2_with fail
      go_ret
      unfold riP
      refine ⟨ret_bool ?_, HW.out⟩
      symm
      rw [leaB_iff]
      intro j h2
      exact HR.out j (by have := HN.out; omega)
/-- is a node right? -/
def okN (t : List Nd) (i : Nat) : Bool := decide (-1 ≤ (nod t i).wd) && (risB (nod t i).es && leaB (nod t i).es i t.length)
def okT (t : List Nd) : Prop := 0 < t.length ∧ ∀ i, i < t.length → okN t i = true
def tchk (t : List Nd) : Int := if decide (0 < t.length) && (List.range t.length).all (okN t) then 0 else 1
theorem tchk_iff (t : List Nd) : tchk t = 0 ↔ okT t := by
  unfold tchk okT
  split
  · rename_i h
    simp only [Bool.and_eq_true, decide_eq_true_eq, List.all_eq_true, List.mem_range] at h
    exact ⟨fun _ => h, fun _ => rfl⟩
  · rename_i h
    simp only [Bool.and_eq_true, decide_eq_true_eq, List.all_eq_true, List.mem_range] at h
    exact ⟨fun e => (by cases e), fun e => absurd e h⟩
theorem tchk_yes {t : List Nd} (h : okT t) : tchk t = 0 := (tchk_iff t).2 h
theorem tchk_no {t : List Nd} (h : ¬ okT t) : tchk t = 1 := by
  have h1 : tchk t ≠ 0 := fun e => h ((tchk_iff t).1 e)
  unfold tchk at h1 ⊢
  split
  · rename_i h2; rw [if_pos h2] at h1; exact absurd rfl h1
  · rfl
/-- lists of nodes that a walk can bear -/
structure fitT (t : List Nd) : Prop where
  len : t.length ≤ maxLen
  es : ∀ j, j < t.length → (nod t j).es.length ≤ maxLen
def ckP (P : Int) (w : World) (e : Ending) (w' : World) : Prop := e = .returned (.int .i64 P) ∧ Below w.heap.size w w'
set_option maxHeartbeats 4000000 in
theorem TCheck_c (a : Option Addr) (cap : Nat) (t : List Nd) (w : World) (hf : fitT t) (hP : TrL w a t) :
    Calls Try.prog 12 #[.slice a t.length cap] w fun e w' => ckP (tchk t) w e w' := by
  have HP := hideH hP
  have HF := hideH hf
  have hl := hf.len
  unfold maxLen at hl
  obtain ⟨n, hn⟩ : ∃ n, n = t.length := ⟨_, rfl⟩
  have HN := hideH hn
  rw [← hn] at hl ⊢
  clear hn hP hf
  rcases Nat.eq_zero_or_pos n with h0 | h0
  · subst h0
    have HE : Hid (tchk t = 1) := tchk_no fun h => by have := h.1; have := HN.out; omega
    go_enter Try.func12, Try.ntmps12
    go_wp2_with fail
    go_ret
    unfold ckP
    exact ⟨ret_int HE.out.symm, Below.refl _ _⟩
  · have hz : ((n : Int) == 0) = false := by simp; omega
    go_enter Try.func12, Try.ntmps12
    go_wp2_with fail
    go_loopw [10] (fun x v => ∃ k : Nat, k ≤ n ∧ x = .int .i64 k ∧ Hid (∀ j, j < k → okN t j = true) ∧ Hid (Below w.heap.size w v)) (fun x _ => n - (intOf x).toNat)
    case atStart => exact ⟨0, Nat.zero_le _, rfl, fun i h1 => by omega, Below.refl _ _⟩
    case round =>
      obtain ⟨k, hk, rfl, HR, HW⟩ := hrel
      by_cases hlt : k < n
      · rcases HP.out.on HW.out with h0 | ⟨b, off, hsa, hcs⟩
        · have := HN.out; omega
        obtain ⟨ea, ec, d0, d1, d2⟩ := hcs k (by have := HN.out; omega)
        clear hcs
        have hk1 : (k : Int) < (n : Int) := by omega
        have hb := hideH ((Below.refl _ wr).alloc (Nat.le_refl _) (.cells #[.slice ea (nod t k).es.length ec, .int .i64 (nod t k).wd] 47))
        have hx := hideH (heap_alloc_new wr (.cells #[.slice ea (nod t k).es.length ec, .int .i64 (nod t k).wd] 47))
        have D2 := hideH d2
        have hle := HF.out.es k (by have := HN.out; omega)
        have HRi := hideH (fun v (hv : Below wr.heap.size wr v) => rise_c ea ec (nod t k).es v hle (D2.out.on hv))
        have HLe := hideH (fun v (hv : Below wr.heap.size wr v) => leadOn_c ea ec (nod t k).es k n v hle (D2.out.on hv))
        have HOk : Hid (okN t k = (decide (-1 ≤ (nod t k).wd) && (risB (nod t k).es && leaB (nod t k).es k n))) := by show _ = _; unfold okN; rw [← HN.out]
        unfold riP at HRi HLe
        clear d2 hle
        generalize risB (nod t k).es = B1 at HRi HOk
        generalize leaB (nod t k).es k n = B2 at HLe HOk
        generalize (nod t k).es.length = en at *
        generalize (nod t k).wd = wd at *
        by_cases q1 : wd < -1
        · have HBad : Hid (tchk t = 1) := tchk_no fun h => by
            have := h.2 k (by have := HN.out; omega)
            rw [HOk.out] at this
            simp at this
            omega
          go_wp2_with fail
          go_ret
          unfold ckP
          exact ⟨ret_int HBad.out.symm, bthen HW.out hb.out⟩
        · have q1' : -1 ≤ wd := by omega
          cases B1
          · have HBad : Hid (tchk t = 1) := tchk_no fun h => by
              have := h.2 k (by have := HN.out; omega)
              rw [HOk.out] at this
              simp at this
            go_wp2_with fail
            refine (HRi.out _ hb.out).mono ?_
            rintro e w1 ⟨rfl, hw1⟩
            go_wp2_with fail
            go_ret
            unfold ckP
            exact ⟨ret_int HBad.out.symm, bthen (bthen HW.out hb.out) hw1⟩
          · go_wp2_with fail
            refine (HRi.out _ hb.out).mono ?_
            rintro e w1 ⟨rfl, hw1⟩
            have H1 := hideH (bthen hb.out hw1)
            have X1 := heap_on hx.out hw1
            have c0 : w1.cell? ⟨wr.heap.size, 0, none⟩ = some (.slice ea en ec) := by simp [World.cell?, X1]
            clear hw1 X1
            go_wp2_with fail
            refine (HLe.out _ H1.out).mono ?_
            rintro e w2 ⟨rfl, hw2⟩
            have H2 := hideH (bthen HW.out (bthen H1.out hw2))
            clear hw2
            cases B2
            · have HBad : Hid (tchk t = 1) := tchk_no fun h => by
                have := h.2 k (by have := HN.out; omega)
                rw [HOk.out] at this
                simp at this
              go_wp2_with fail
              go_ret
              unfold ckP
              exact ⟨ret_int HBad.out.symm, H2.out⟩
            · have HG : Hid (okN t k = true) := by
                show _ = _
                rw [HOk.out]
                simp
                omega
              go_wp2_with fail
              try simp only [← hsa]
              go_roundw
              case rel => exact ⟨k + 1, by omega, by go_num, fun j h1 => by
                by_cases hi : j = k
                · subst hi
                  exact HG.out
                · exact HR.out j (by omega), H2⟩
              case measure => simp [intOf]; omega
      · have hlt2 : ¬ ((k : Int) < (n : Int)) := by omega
        have HG : Hid (tchk t = 0) := tchk_yes ⟨by have := HN.out; omega, fun i hi => HR.out i (by have := HN.out; omega)⟩
        go_wp2_with fail
        go_ret
        unfold ckP
        exact ⟨ret_int HG.out.symm, HW.out⟩
end Go.Proofs.Ythkdjklpegmnnaa.Tri
