/- The document's own CityOf. -/
import Derived.Test.YtfjjdicgekgbeaaGreatDoorNamesAAll
import Derived.Laws.IdiomStrings
namespace Go.Proofs.YtfjjdicgekgbeaaGreatDoor
open Go Go.RowKit Go.Maps
set_option linter.unusedVariables false

/-- bytes in a block of the call's own -/
def BtA (w : World) (g n : Nat) (f : Nat → UInt8) : Prop := ∀ j, j < n → w.cell? ⟨g, j, none⟩ = some (.int .u8 ((f j).toNat : Int)) ∧ w.frozen? ⟨g, j, none⟩ = false
theorem add_z (b k : Nat) : (⟨b, 0, none⟩ : Addr).add k = ⟨b, k, none⟩ := by
  unfold Addr.add
  split
  · rename_i h; subst h; rfl
  · simp
theorem wrap_nnR {n : Int} (h0 : 0 ≤ n) (h1 : n < 9223372036854775808) : IntKind.i64.wrap n = n := by
  have h64 : IntKind.i64.bits = 64 := rfl
  have hsg : IntKind.i64.signed = true := rfl
  unfold IntKind.wrap
  rw [h64, hsg]
  simp only [Bool.true_and]
  rw [Int.emod_eq_of_lt h0 (by omega)]
  simp
  omega
def sby (s : ByteArray) (j : Nat) : UInt8 := s.data.toList[j]?.getD 0
theorem conv_n (s : ByteArray) (w : World) : ∃ W1 c, (convert 9 138 (.string s)).run Tryz.prog w = .ok (.slice (some ⟨w.heap.size, 0, none⟩) s.size c) W1 ∧ Below w.heap.size w W1 ∧ BtA W1 w.heap.size s.size (sby s) := by
  refine ⟨_, _, run_bytes_of_string w 9 138 5 s Tryz.underlying9 Tryz.underlying138 Tryz.underlying5, ?_, ?_⟩
  · exact (Below.refl _ w).drew.alloc (Nat.le_refl _) _
  · intro j hj
    have hj' : j < s.data.size := hj
    have hn : ∀ o : Obj, (w.drew.alloc o).heap[w.heap.size]? = some o := fun o => World.alloc_heap_new w.drew o
    constructor
    · unfold World.cell?
      rw [hn]
      have := bytesRow_at s (grownCap w s.size 0 5) j hj'
      simp only [this]
      unfold sby
      rw [List.getElem?_eq_getElem (by simpa using hj')]
      simp
    · unfold World.frozen?
      rw [hn]
      have hsz : s.data.size ≤ (bytesRow s (grownCap w s.size 0 5)).size := by unfold bytesRow; simp
      simp only [Bool.and_eq_false_iff, decide_eq_false_iff_not]
      left
      omega
theorem BtA.set {w : World} {g n k : Nat} {f : Nat → UInt8} (h : BtA w g n f) (hk : k < n) (x : UInt8) : BtA (w.setCell ⟨g, k, none⟩ (.int .u8 (x.toNat : Int))) g n (fun j => if j = k then x else f j) := by
  intro j hj
  obtain ⟨h1, h2⟩ := h j hj
  refine ⟨?_, by rw [World.frozen?_setCell]; exact h2⟩
  show (w.setCell ⟨g, k, none⟩ (Value.int .u8 (x.toNat : Int))).cell? ⟨g, j, none⟩ = some (Value.int .u8 ((if j = k then x else f j).toNat : Int))
  by_cases e : j = k
  · subst e
    rw [if_pos rfl]
    exact World.cell?_setCell_same _ _ _ h1
  · rw [if_neg e, ← h1]
    refine World.cell?_setCell_other _ _ _ _ ?_
    intro h3
    exact e (by simpa using h3.symm)
theorem BtA.congr {w : World} {g n : Nat} {f f' : Nat → UInt8} (h : BtA w g n f) (e : ∀ j, j < n → f j = f' j) : BtA w g n f' := fun j hj => by rw [← e j hj]; exact h j hj
theorem BtA.on {w w' : World} {g n : Nat} {f : Nat → UInt8} (h : BtA w g n f) (hb : Below w.heap.size w w') : BtA w' g n f := fun j hj => by
  obtain ⟨h1, h2⟩ := h j hj
  refine ⟨cell_on h1 hb, ?_⟩
  rw [hb.frozen (p := ⟨g, j, none⟩) (cell_ltn h1)]
  exact h2
theorem BtA.back {w : World} {g n c : Nat} {f : Nat → UInt8} (h : BtA w g n f) : (convert 138 9 (.slice (some ⟨g, 0, none⟩) n c)).run Tryz.prog w = .ok (.string ⟨((List.range n).map f).toArray⟩) w := by
  have := run_convert_bytes_back (P := Tryz.prog) w 138 9 5 ⟨g, 0, none⟩ c ((List.range n).map f) Tryz.underlying138 Tryz.underlying5 Tryz.underlying9 (fun j hj => by
    rw [add_z]
    have hj' : j < n := by simpa using hj
    rw [(h j hj').1]
    simp)
  rw [show ((List.range n).map f).length = n by simp] at this
  exact this
/-- what is there behind k rounds -/
def cyf (s : ByteArray) (k j : Nat) : UInt8 := if j < k then spc (sby s j) else sby s j
theorem cty_none {s : ByteArray} (h : ∀ j, j < s.size → sby s j ≠ 47) : cty s.data.toList = (List.range s.size).map (cyf s s.size) := by
  have hl : s.data.toList.length = s.size := by simp
  have h1 : lastP s.data.toList = s.data.toList := by
    refine lastP_none fun c hc e => ?_
    obtain ⟨j, hj, hjc⟩ := List.getElem_of_mem hc
    refine h j (by omega) ?_
    unfold sby
    rw [List.getElem?_eq_getElem hj, hjc]
    exact e
  unfold cty
  rw [h1]
  apply List.ext_getElem
  · simp
  · intro i h2 h3
    have hi : i < s.data.toList.length := by simpa using h2
    simp only [List.getElem_map, List.getElem_range]
    unfold cyf sby
    rw [if_pos (by omega), List.getElem?_eq_getElem hi]
    rfl
theorem cty_rest {s : ByteArray} {k : Nat} (hk : k < s.size) (h : sby s k = 47) : cty s.data.toList = cty (s.extract (k + 1) s.size).data.toList := by
  have hl : s.data.toList.length = s.size := by simp
  have hki : k < s.data.toList.length := by omega
  have hc : s.data.toList[k] = 47 := by unfold sby at h; rw [List.getElem?_eq_getElem hki] at h; exact h
  have he : (s.extract (k + 1) s.size).data.toList = s.data.toList.drop (k + 1) := ext_end s (by omega)
  rw [he]
  have hsp : s.data.toList = s.data.toList.take k ++ 47 :: s.data.toList.drop (k + 1) := by
    rw [← hc, ← List.drop_eq_getElem_cons hki, List.take_append_drop]
  unfold cty
  congr 1
  conv => lhs; rw [hsp]
  unfold lastP
  rw [List.reverse_append, List.reverse_cons, List.append_assoc]
  generalize (s.data.toList.drop (k + 1)).reverse = R
  generalize (List.take k s.data.toList).reverse = Q
  congr 1
  induction R with
  | nil => simp
  | cons a R ih =>
    rw [List.cons_append, List.takeWhile_cons, List.takeWhile_cons, ih]
theorem cyf_here (s : ByteArray) (k : Nat) : cyf s k k = sby s k := if_neg (Nat.lt_irrefl k)
theorem cyf_next (s : ByteArray) (k j : Nat) : cyf s (k + 1) j = if j = k then spc (sby s k) else cyf s k j := by
  unfold cyf
  by_cases e : j = k
  · subst e; rw [if_pos (by omega), if_pos rfl]
  · rw [if_neg e]
    by_cases h : j < k
    · rw [if_pos (by omega), if_pos h]
    · rw [if_neg (by omega), if_neg h]
set_option maxRecDepth 100000 in
set_option maxHeartbeats 8000000 in
theorem CityOf_n : ∀ (n : Nat) (s : ByteArray) (w : World), s.size ≤ n → n ≤ 1000 → Calls Tryz.prog 47 #[.string s] w fun e w' => e = .returned (.string ⟨(cty s.data.toList).toArray⟩) ∧ Below w.heap.size w w'
  | n, s, w, hn, hn2 => by
    have HI : Hid (∀ (k : Nat) (v : World), k < s.size → Calls Tryz.prog 47 #[.string (s.extract (k + 1) s.size)] v fun e w' => e = .returned (.string ⟨(cty (s.extract (k + 1) s.size).data.toList).toArray⟩) ∧ Below v.heap.size v w') := by
      intro k v hk
      have hsz : (s.extract (k + 1) s.size).size ≤ n - 1 := by rw [ByteArray.size_extract]; omega
      match n, hn, hn2, hsz with
      | 0, hn, _, _ => omega
      | m + 1, hn, hn2, hsz => exact CityOf_n m _ v hsz (by omega)
    have hN1 : s.size ≤ 1000 := by omega
    obtain ⟨W1, c, hcv, hB1, hb1⟩ := conv_n s w
    have HB := hideH hB1
    have HA : Hid (BtA W1 w.heap.size s.size (cyf s 0)) := hb1
    clear hB1 hb1 hn
    go_enter Tryz.func47, Tryz.ntmps47
    go_wp2_with fail
    go_loopw [4] (fun x4 v => ∃ k : Nat, k ≤ s.size ∧ x4 = .int .i64 k ∧ Hid (BtA v w.heap.size s.size (cyf s k)) ∧ Hid (Below w.heap.size w v) ∧ Hid (∀ j, j < k → sby s j ≠ 47)) (fun x4 _ => s.size - (intOf x4).toNat)
    case atStart => exact ⟨0, Nat.zero_le _, rfl, HA, HB, fun j hj => absurd hj (Nat.not_lt_zero _)⟩
    case round =>
      obtain ⟨k, hk, rfl, QA, QB, QN⟩ := hrel
      by_cases hlt : k < s.size
      · obtain ⟨c0, f0⟩ := QA.out k hlt
        rw [cyf_here] at c0
        have hb := (sby s k).toNat_lt
        have hki : (k : Int) < (s.size : Int) := by omega
        by_cases q1 : sby s k = 47
        · have q1b : (((sby s k).toNat : Int) == 47) = true := by rw [q1]; rfl
          have HI1 : Hid (∀ v, Calls Tryz.prog 47 #[.string (s.extract (k + 1) s.size)] v fun e w' => e = .returned (.string ⟨(cty s.data.toList).toArray⟩) ∧ Below v.heap.size v w') := fun v => by
            have := HI.out k v hlt
            rw [← cty_rest hlt q1] at this
            exact this
          have hk1 : (k : Int) + 1 ≤ (s.size : Int) := by omega
          have hwk : IntKind.i64.wrap ((k : Int) + 1) = (k : Int) + 1 := wrap_nnR (by omega) (by omega)
          generalize sby s k = x at c0 hb q1b
          clear q1
          go_wp2_with (go_at_call 47; refine (HI1.out _).mono ?_; rintro e w2 ⟨rfl, hw2⟩)
          go_ret
          exact ⟨rfl, bthen QB.out hw2⟩
        · have q1b : (((sby s k).toNat : Int) == 47) = false := by
            rw [beq_eq_false_iff_ne]
            intro e
            exact q1 (UInt8.toNat_inj.1 (by show (sby s k).toNat = 47; omega))
          have QN2 : Hid (∀ j, j < k + 1 → sby s j ≠ 47) := fun j hj => by
            by_cases e : j = k
            · subst e; exact q1
            · exact QN.out j (by omega)
          by_cases q2 : sby s k = 95
          · have q2b : (((sby s k).toNat : Int) == 95) = true := by rw [q2]; rfl
            have QA2 : Hid (BtA (wr.setCell ⟨w.heap.size, k, none⟩ (.int .u8 32)) w.heap.size s.size (cyf s (k + 1))) := by
              refine (QA.out.set hlt 32).congr fun j hj => ?_
              rw [cyf_next, q2]
              rfl
            have QB2 : Hid (Below w.heap.size w (wr.setCell ⟨w.heap.size, k, none⟩ (.int .u8 32))) := QB.out.setCell (p := ⟨w.heap.size, k, none⟩) (Nat.le_refl _) _
            generalize sby s k = x at c0 hb q1b q2b
            clear q1 q2
            go_wp2_with fail
            go_roundw
            case rel => exact ⟨k + 1, by omega, by go_num, QA2, QB2, QN2⟩
            case measure => simp [intOf]; omega
          · have q2b : (((sby s k).toNat : Int) == 95) = false := by
              rw [beq_eq_false_iff_ne]
              intro e
              exact q2 (UInt8.toNat_inj.1 (by show (sby s k).toNat = 95; omega))
            have QA2 : Hid (BtA wr w.heap.size s.size (cyf s (k + 1))) := by
              refine QA.out.congr fun j hj => ?_
              rw [cyf_next]
              by_cases e : j = k
              · subst e
                rw [if_pos rfl, cyf_here]
                unfold spc
                rw [if_neg q2]
              · rw [if_neg e]
            generalize sby s k = x at c0 hb q1b q2b
            clear q1 q2
            go_wp2_with fail
            go_roundw
            case rel => exact ⟨k + 1, by omega, by go_num, QA2, QB, QN2⟩
            case measure => simp [intOf]; omega
      · have hke : k = s.size := by omega
        have hki : ¬ ((k : Int) < (s.size : Int)) := by omega
        have hbk := QA.out.back (c := c)
        have HR : Hid (cty s.data.toList = (List.range s.size).map (cyf s k)) := by
          show _ = _
          rw [hke]
          exact cty_none (by rw [← hke]; exact QN.out)
        rw [← HR.out] at hbk
        clear hke HR
        go_wp2_with fail
        go_ret
        exact ⟨rfl, QB.out⟩
theorem CityOf_c (s : ByteArray) (w : World) (h : s.size ≤ 12) : Calls Tryz.prog 47 #[.string s] w fun e w' => e = .returned (.string ⟨(cty s.data.toList).toArray⟩) ∧ Below w.heap.size w w' := CityOf_n 12 s w h (by omega)
end Go.Proofs.YtfjjdicgekgbeaaGreatDoor
