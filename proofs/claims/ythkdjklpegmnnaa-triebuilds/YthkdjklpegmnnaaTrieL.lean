/- The contract of trie.Build. -/
import Derived.Test.YthkdjklpegmnnaaTrieK
namespace Go.Proofs.Ythkdjklpegmnnaa.Tri
open Go Go.RowKit Go.Maps
set_option linter.unusedVariables false

/-- texts in a row -/
def TxA (w : World) (a : Option Addr) (n : Nat) (ss : Nat → ByteArray) : Prop := n = 0 ∨ ∃ b off, a = some ⟨b, off, none⟩ ∧ ∀ j, j < n → w.cell? ⟨b, off + j, none⟩ = some (.string (ss j))
theorem TxA.on {w w' : World} {a : Option Addr} {n : Nat} {ss : Nat → ByteArray} (p : TxA w a n ss) (hb : Below w.heap.size w w') : TxA w' a n ss := by
  rcases p with p | ⟨b, off, h1, h2⟩
  · exact .inl p
  · exact .inr ⟨b, off, h1, fun j hj => cell_on (h2 j hj) hb⟩
/-- the words -/
def wl (n : Nat) (ss : Nat → ByteArray) : List (List UInt8) := (List.range n).map fun j => (ss j).data.toList
theorem wl_len (n : Nat) (ss : Nat → ByteArray) : (wl n ss).length = n := by simp [wl]
theorem wo_wl {n : Nat} {ss : Nat → ByteArray} {j : Nat} (h : j < n) : wo (wl n ss) j = (ss j).data.toList := by unfold wo wl; simp [h]
def okW (s : ByteArray) : Bool := decide (1 ≤ s.size ∧ s.size ≤ 12)
/-- Build's error -/
def bldE (n : Nat) (ss : Nat → ByteArray) : Int := if 40 < n then 2 else if (List.range n).all (fun j => okW (ss j)) then 0 else 5
theorem bldE_many {n : Nat} (ss : Nat → ByteArray) (h : 40 < n) : bldE n ss = 2 := by unfold bldE; rw [if_pos h]
theorem bldE_ok {n : Nat} {ss : Nat → ByteArray} (h : n ≤ 40) (k : ∀ j, j < n → okW (ss j) = true) : bldE n ss = 0 := by
  unfold bldE; rw [if_neg (by omega), if_pos (List.all_eq_true.2 fun j hj => k j (List.mem_range.1 hj))]
theorem bldE_bad {n : Nat} {ss : Nat → ByteArray} (h : n ≤ 40) {j : Nat} (hj : j < n) (k : okW (ss j) = false) : bldE n ss = 5 := by
  unfold bldE; rw [if_neg (by omega), if_neg]
  intro hc
  have := List.all_eq_true.1 hc j (List.mem_range.2 hj)
  rw [k] at this; cases this
theorem bldE_zero {n : Nat} {ss : Nat → ByteArray} (h : bldE n ss = 0) : n ≤ 40 ∧ ∀ j, j < n → okW (ss j) = true := by
  unfold bldE at h
  split at h
  · cases h
  · split at h
    · rename_i h1 h2
      exact ⟨by omega, fun j hj => List.all_eq_true.1 h2 j (List.mem_range.2 hj)⟩
    · cases h
theorem okW_sz {s : ByteArray} (h : okW s = true) : 1 ≤ s.size ∧ s.size ≤ 12 := by unfold okW at h; simpa using h
theorem sz_bd (l : List (List UInt8)) : ∀ k, (∀ j, j < k → (wo l j).length ≤ 12) → sz l k ≤ 1 + 12 * k
  | 0, _ => Nat.le_refl _
  | k + 1, h => by
    have := sz_bd l k (fun j hj => h j (by omega))
    have h2 := h k (by omega)
    simp only [sz]
    omega
theorem bld_fits {n : Nat} {ss : Nat → ByteArray} {k : Nat} (hk : k ≤ n) (hn : n ≤ 40) (h : ∀ j, j < n → (ss j).size ≤ 12) : ∃ pre, Ok (bldN (wl n ss) k) pre ∧ (∀ i, i < (bldN (wl n ss) k).length → -1 ≤ (nod (bldN (wl n ss) k) i).wd) ∧ (bldN (wl n ss) k).length ≤ 600 := by
  obtain ⟨pre, o1, o2, o3, o4⟩ := bld_ok (wl n ss) k
  refine ⟨pre, o1, fun i hi => ?_, ?_⟩
  · rw [o1.len] at hi
    rw [o3 i _ (List.getElem?_eq_getElem hi)]
    exact fw_ge _ _ _
  · have := sz_bd (wl n ss) k (fun j hj => by rw [wo_wl (by omega), sz_len]; exact h j (by omega))
    omega
theorem bld_okT {n : Nat} {ss : Nat → ByteArray} (hn : bldE n ss = 0) : okT (bldN (wl n ss) n) := by
  obtain ⟨h1, h2⟩ := bldE_zero hn
  obtain ⟨pre, o1, o2, _⟩ := bld_fits (Nat.le_refl n) h1 (fun j hj => (okW_sz (h2 j hj)).2)
  exact ok_okT o1 o2
theorem bld_fitT {n : Nat} {ss : Nat → ByteArray} (hn : bldE n ss = 0) : fitT (bldN (wl n ss) n) := by
  obtain ⟨h1, h2⟩ := bldE_zero hn
  obtain ⟨pre, o1, _, o3⟩ := bld_fits (Nat.le_refl n) h1 (fun j hj => (okW_sz (h2 j hj)).2)
  exact ⟨by unfold maxLen; omega, fun j hj => by have := rises_len (o1.so j); unfold maxLen; omega⟩
/-- what Build answers -/
def buP (n : Nat) (ss : Nat → ByteArray) (w : World) (e : Ending) (w' : World) : Prop :=
  Below w.heap.size w w' ∧ ((bldE n ss ≠ 0 ∧ e = .returned (.tuple #[.slice none 0 0, .int .i64 (bldE n ss)])) ∨ (bldE n ss = 0 ∧ ∃ v vs, e = .returned (.tuple #[v, .int .i64 0]) ∧ OwT w' w.heap.size v vs (bldN (wl n ss) n)))
theorem own_start (w : World) : OwT (w.alloc (.cells #[.slice none 0 0, .int .i64 (-1)] 47)) w.heap.size (.slice (some ⟨w.heap.size, 0, none⟩) 1 1) (fun _ => .slice none 0 0) start := by
  refine ⟨?_, fun j hj => ?_, fun j hj => ap_symm (ap_nil _), fun i j _ _ _ => ap_nil _⟩
  · exact World.ownsRow_lit (base := w.heap.size) (size := 2) w #[.slice none 0 0, .int .i64 (-1)] 1 (Nat.le_refl _) (by unfold maxLen; omega) rfl
  · have : j = 0 := by simp [start] at hj; exact hj
    subst this
    exact ⟨rfl, .inl ⟨rfl, rfl⟩⟩
theorem OwT.mono {w : World} {base base' : Nat} {v : Value} {vs : Nat → Value} {t : List Nd} (h : OwT w base v vs t) (hb : base' ≤ base) : OwT w base' v vs t :=
  have key : ∀ {e : TypeId} {size : Nat} {v : Value} {n : Nat} {xs : List Value}, w.ownsRow base e size v n xs → w.ownsRow base' e size v n xs := fun h => ⟨h.1, h.2.imp id fun ⟨g, cap, cur, h1, h2, h3⟩ => ⟨g, cap, cur, h1, Nat.le_trans hb h2, h3⟩⟩
  ⟨key h.row, fun j hj => key (h.es j hj), h.av, h.aa⟩
set_option maxRecDepth 100000 in
set_option maxHeartbeats 8000000 in
theorem Build_c (a : Option Addr) (n c : Nat) (ss : Nat → ByteArray) (w : World) (hn : n ≤ maxLen) (hP : TxA w a n ss) (hf : ∀ j, j < n → (ss j).size ≤ maxLen) :
    Calls Try.prog 8 #[.slice a n c] w fun e w' => buP n ss w e w' := by
  have HP := hideH hP
  have HF := hideH hf
  unfold maxLen at hn
  clear hP hf
  by_cases h40 : 40 < n
  · have h40i : (40 : Int) < (n : Int) := by omega
    have HE := hideH (bldE_many ss h40)
    go_enter Try.func8, Try.ntmps8
    go_wp2_with fail
    go_ret2
    unfold buP
    exact ⟨Below.refl _ _, .inl ⟨by rw [HE.out]; decide, by rw [HE.out] <;> rfl⟩⟩
  · have h40i : ¬ ((40 : Int) < (n : Int)) := by omega
    go_enter Try.func8, Try.ntmps8
    go_wp2_with fail
    go_loopw [14] (fun x v => ∃ k : Nat, k ≤ n ∧ x = .int .i64 k ∧ Hid (∀ j, j < k → okW (ss j) = true) ∧ Hid (Below w.heap.size w v)) (fun x _ => n - (intOf x).toNat)
    case atStart => exact ⟨0, Nat.zero_le _, rfl, fun i h1 => by omega, Below.refl _ _⟩
    case round =>
      obtain ⟨k, hk, rfl, HR, HW⟩ := hrel
      by_cases hlt : k < n
      · rcases HP.out.on HW.out with h0 | ⟨b, off, hsa, hcs⟩
        · omega
        have d0 := hcs k hlt
        have hsz := HF.out k hlt
        unfold maxLen at hsz
        clear hcs
        have hki : (k : Int) < (n : Int) := by omega
        by_cases q1 : (ss k).size < 1
        · have q1i : ((ss k).size : Int) < 1 := by omega
          have HE := hideH (bldE_bad (ss := ss) (by omega) hlt (by unfold okW; simp; omega))
          go_wp2_with fail
          go_ret2
          unfold buP
          exact ⟨HW.out, .inl ⟨by rw [HE.out]; decide, by rw [HE.out] <;> rfl⟩⟩
        · have q1i : ¬ (((ss k).size : Int) < 1) := by omega
          by_cases q2 : 12 < (ss k).size
          · have q2i : (12 : Int) < ((ss k).size : Int) := by omega
            have HE := hideH (bldE_bad (ss := ss) (by omega) hlt (by unfold okW; simp; omega))
            go_wp2_with fail
            go_ret2
            unfold buP
            exact ⟨HW.out, .inl ⟨by rw [HE.out]; decide, by rw [HE.out] <;> rfl⟩⟩
          · have q2i : ¬ ((12 : Int) < ((ss k).size : Int)) := by omega
            have HG : Hid (okW (ss k) = true) := by show _ = _; unfold okW; simp; omega
            go_wp2_with fail
            try simp only [← hsa]
            go_roundw
            case rel => exact ⟨k + 1, by omega, by go_num, fun j h1 => by
              by_cases hi : j = k
              · subst hi; exact HG.out
              · exact HR.out j (by omega), HW⟩
            case measure => simp [intOf]; omega
      · obtain rfl : k = n := by omega
        have hki : ¬ ((k : Int) < (k : Int)) := by omega
        have HE := hideH (bldE_ok (ss := ss) (by omega) HR.out)
        have HS12 : Hid (∀ j, j < k → (ss j).size ≤ 12) := fun j hj => (okW_sz (HR.out j hj)).2
        obtain ⟨wo, hwo⟩ : ∃ wo, wo = wr := ⟨_, rfl⟩
        have HW2 : Hid (Below w.heap.size w wo) := by show Below _ _ _; rw [hwo]; exact HW.out
        simp only [← hwo]
        clear hwo HW HR
        have HSt := hideH (own_start wo)
        have HBs := hideH ((Below.refl _ wo).alloc (Nat.le_refl _) (.cells #[.slice none 0 0, .int .i64 (-1)] 47))
        have HSt2 : Hid (OwT (wo.alloc (.cells #[.slice none 0 0, .int .i64 (-1)] 47)) w.heap.size (.slice (some ⟨wo.heap.size, 0, none⟩) 1 1) (fun _ => .slice none 0 0) (bldN (wl k ss) 0)) := HSt.out.mono HW2.out.size
        have HB0 := hideH (bthen HW2.out HBs.out)
        clear HSt HBs
        go_wp2_with fail
        go_loopw [6, 31] (fun x6 x31 v => ∃ (i : Nat) (vs : Nat → Value), i ≤ k ∧ x31 = .int .i64 i ∧ Hid (OwT v w.heap.size x6 vs (bldN (wl k ss) i)) ∧ Hid (Below w.heap.size w v)) (fun _ x31 _ => k - (intOf x31).toNat)
        case atStart => exact ⟨0, _, Nat.zero_le _, rfl, HSt2, HB0⟩
        case round =>
          obtain ⟨i, vs, hi, rfl, HO, HW⟩ := hrel
          by_cases hlt : i < k
          · rcases HP.out.on HW.out with h0 | ⟨b, off, hsa, hcs⟩
            · omega
            have d0 := hcs i hlt
            have hsz := HF.out i hlt
            unfold maxLen at hsz
            clear hcs
            have hki : (i : Int) < (k : Int) := by omega
            obtain ⟨pre, o1, o2, o3⟩ := bld_fits (n := k) (ss := ss) (k := i) (by omega) (by omega) HS12.out
            have HA := hideH (add_c w.heap.size u6 vs (bldN (wl k ss) i) pre (ss i) i wr HO.out o1 o2 o3 (HS12.out i hlt) HW.out.size)
            unfold adP at HA
            clear o1 o2 o3
            go_wp2_with fail
            refine HA.out.mono ?_
            rintro e w2 ⟨v2, vs2, rfl, hO2, hb2⟩
            have HO2 : Hid (OwT w2 w.heap.size v2 vs2 (bldN (wl k ss) (i + 1))) := by
              show OwT _ _ _ _ _
              rw [bld_succ, wo_wl hlt]
              exact hO2
            have H2 := hideH (HW.out.trans hb2)
            clear hO2 hb2 HA
            go_wp2_with fail
            try simp only [← hsa]
            go_roundw
            case rel => exact ⟨i + 1, vs2, by omega, by go_num, HO2, H2⟩
            case measure => simp [intOf]; omega
          · obtain rfl : i = k := by omega
            go_wp2_with fail
            go_ret2
            unfold buP
            exact ⟨HW.out, .inr ⟨HE.out, _, vs, rfl, HO.out⟩⟩
end Go.Proofs.Ythkdjklpegmnnaa.Tri
