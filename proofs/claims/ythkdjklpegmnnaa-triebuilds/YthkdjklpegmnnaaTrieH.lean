/- The contract of slices.Insert at edges: in their midst. -/
import Derived.Test.YthkdjklpegmnnaaTrieG
namespace Go.Proofs.Ythkdjklpegmnnaa.Tri
open Go Go.RowKit Go.Lib Go.Maps
set_option linter.unusedVariables false

theorem isz_edge : (Try.prog.info? 52).map (·.size) = some 2 := by kernel_rfl
theorem siz_edge (w : World) : (Go.sizeOf 52).run Try.prog w = .ok 2 w := by
  obtain ⟨i0, hi, hz0, hz1, hz2⟩ := info_parts info_edge
  simp [sizeOf, typeInfo, hi, hz1]
theorem over_no (g vb i : Nat) (c : UInt8) (k : Int) (cur : Array Value) (w : World) (hv : w.heap[vb]? = some (.cells #[.int .u8 (c.toNat : Int), .int .i64 k] 52)) (hg : w.heap[g]? = some (.cells cur 52 (0, 0))) (h0 : cur.size ≠ 0) (hvb : vb ≠ g) (o : Nat) :
    ∀ lb cb, (callFunc 33 #[.slice (some ⟨vb, 0, none⟩) 1 1, .slice (some ⟨g, o, none⟩) lb cb]).run Try.prog w = .ok (.value (.bool false)) w := fun lb cb => by
  rw [run_callFunc_extern Try.func33 (by kernel_rfl) (by kernel_rfl) (by kernel_rfl) (e := Extern.SlicesOverlaps.overlaps #[45, 45] #[4]) (by kernel_rfl),
    Lib.run_overlaps_apart w 45 4 52 Try.underlying45 2 siz_edge ⟨vb, 0, none⟩ ⟨g, o, none⟩ 1 1 lb cb hvb 52 52 2 cur.size (by simp [World.shape?, hv]) (by simp [World.shape?, hg]) h0 (by simp [World.frozen?, hv]) (by simp [World.frozen?, hv])]
  rfl
/-- what stands behind the two copies -/
def sh1 (cur : List Value) (i n : Nat) : List Value := cur.take ((i + 1) * 2) ++ (cur.take (n * 2)).drop (i * 2) ++ cur.drop ((i + 1) * 2 + ((cur.take (n * 2)).drop (i * 2)).length)
def sh2 (cur : List Value) (i n : Nat) (x : List Value) : List Value := (sh1 cur i n).take (i * 2) ++ x ++ (sh1 cur i n).drop (i * 2 + x.length)
theorem seg_len {cur : List Value} {i n : Nat} (hi : i ≤ n) (hn : n * 2 ≤ cur.length) : ((cur.take (n * 2)).drop (i * 2)).length = (n - i) * 2 := by
  rw [List.length_drop, List.length_take]; omega
theorem sh1_len {cur : List Value} {i n : Nat} (hi : i < n) (hn : (n + 1) * 2 ≤ cur.length) : (sh1 cur i n).length = cur.length := by
  unfold sh1
  rw [List.length_append, List.length_append, seg_len (by omega) (by omega), List.length_take, List.length_drop]; omega
theorem sh2_len {cur : List Value} {i n : Nat} {x : List Value} (hx : x.length = 2) (hi : i < n) (hn : (n + 1) * 2 ≤ cur.length) : (sh2 cur i n x).length = cur.length := by
  unfold sh2
  rw [List.length_append, List.length_append, List.length_take, List.length_drop, sh1_len hi hn, hx]; omega
theorem sh2_take {cur : List Value} {i n : Nat} {x : List Value} (hx : x.length = 2) (hi : i < n) (hn : (n + 1) * 2 ≤ cur.length) : (sh2 cur i n x).take ((n + 1) * 2) = (cur.take (n * 2)).take (i * 2) ++ x ++ (cur.take (n * 2)).drop (i * 2) := by
  have hl := sh1_len hi hn
  have e1 : (sh1 cur i n).take (i * 2) = (cur.take (n * 2)).take (i * 2) := by
    unfold sh1
    rw [List.append_assoc, List.take_append_of_le_length (by rw [List.length_take]; omega), List.take_take, List.take_take]
    congr 1; omega
  have e2 : ((sh1 cur i n).drop (i * 2 + 2)).take ((n - i) * 2) = (cur.take (n * 2)).drop (i * 2) := by
    unfold sh1
    have hs := seg_len (cur := cur) (i := i) (n := n) (by omega) (by omega)
    have ht : (cur.take ((i + 1) * 2)).length = i * 2 + 2 := by rw [List.length_take]; omega
    rw [List.append_assoc, ← ht, List.drop_append_of_le_length (Nat.le_refl _), List.drop_length, List.nil_append, List.take_append_of_le_length (by omega), List.take_of_length_le (by omega)]
  unfold sh2
  rw [List.append_assoc, List.take_append, List.take_append, hx]
  have l1 : ((sh1 cur i n).take (i * 2)).length = i * 2 := by rw [List.length_take]; omega
  rw [l1, List.take_of_length_le (by omega), List.take_of_length_le (l := x) (by omega), show (n + 1) * 2 - i * 2 - 2 = (n - i) * 2 by omega, e2, e1, List.append_assoc]
set_option maxRecDepth 100000 in
set_option maxHeartbeats 4000000 in
theorem Insert_room (g cap n i : Nat) (c : UInt8) (k : Int) (vb : Nat) (cur : Array Value) (w : World) (hi : i < n) (hroom : n + 1 ≤ cap) (hlen : n ≤ 1000) (hcm : cap ≤ 9223372036854775807) (hg : w.heap[g]? = some (.cells cur 52 (0, 0))) (hcs : cur.size = cap * 2)
    (h1 : ∀ v ∈ cur.toList.take (n * 2), v.oneCell' = true) (hv : w.heap[vb]? = some (.cells #[.int .u8 (c.toNat : Int), .int .i64 k] 52)) (hvb : vb ≠ g) :
    Calls Try.prog 28 #[.slice (some ⟨g, 0, none⟩) n cap, .int .i64 i, .slice (some ⟨vb, 0, none⟩) 1 1] w fun e w' => e = .returned (.slice (some ⟨g, 0, none⟩) (n + 1) cap) ∧ w' = w.drew.setRow g (sh2 cur.toList i n [.int .u8 (c.toNat : Int), .int .i64 k]).toArray := by
  have hov := over_no g vb i c k cur w hv hg (by omega) hvb ((i + 1) * 2)
  have hgd : w.drew.heap[g]? = some (.cells cur 52 (0, 0)) := hg
  have hlc : cur.toList.length = cap * 2 := by rw [Array.length_toList, hcs]
  have hsl := seg_len (cur := cur.toList) (i := i) (n := n) (by omega) (by omega)
  have HCP1 : Hid (∀ ty dc sc, (Builtin.copy_ #[45, 45] ty #[.slice (some ⟨g, (i + 1) * 2, none⟩) (n - i) dc, .slice (some ⟨g, i * 2, none⟩) (n + 1 - i) sc]).run Try.prog w.drew = .ok (goInt ((n - i : Nat) : Int)) (w.drew.setRow g (sh1 cur.toList i n).toArray)) := fun ty dc sc =>
    run_copy_rowS w.drew _ _ ty 52 g ((i + 1) * 2) (n - i) dc ⟨g, i * 2, none⟩ (n + 1 - i) sc cur 52 ((cur.toList.take (n * 2)).drop (i * 2)) 2 (n - i) Try.underlying45 isz_edge hgd (by simp only [Nat.min_def]; split <;> omega) hsl
      (fun j v hj => by
        rw [Addr.add_lit]
        rw [List.getElem?_drop, List.getElem?_take] at hj
        split at hj
        · rw [World.cell?, hgd]; simpa using hj
        · cases hj)
      (by omega) (fun v hv => h1 v (List.mem_of_mem_drop hv))
  obtain ⟨W1, hW1⟩ : ∃ W1, W1 = w.drew.setRow g (sh1 cur.toList i n).toArray := ⟨_, rfl⟩
  have hg1 : W1.heap[g]? = some (.cells (sh1 cur.toList i n).toArray 52 (0, 0)) := by rw [hW1]; exact setRow_heap _ _ _ _ _ _ hgd
  have hv1 : W1.heap[vb]? = some (.cells #[.int .u8 (c.toNat : Int), .int .i64 k] 52) := by
    rw [hW1, (setRow_grown hgd).block vb (by show vb < w.heap.size; exact (Array.getElem?_eq_some_iff.1 hv).1) (by simpa using hvb)]
    exact hv
  have hl1 := sh1_len (cur := cur.toList) (i := i) (n := n) hi (by omega)
  have HCP2 : Hid (∀ ty dc, (Builtin.copy_ #[45, 45] ty #[.slice (some ⟨g, i * 2, none⟩) (n + 1 - i) dc, .slice (some ⟨vb, 0, none⟩) 1 1]).run Try.prog W1 = .ok (goInt 1) (w.drew.setRow g (sh2 cur.toList i n [.int .u8 (c.toNat : Int), .int .i64 k]).toArray)) := fun ty dc => by
    have := run_copy_rowS (P := Try.prog) W1 45 45 ty 52 g (i * 2) (n + 1 - i) dc ⟨vb, 0, none⟩ 1 1 (sh1 cur.toList i n).toArray 52 [.int .u8 (c.toNat : Int), .int .i64 k] 2 1 Try.underlying45 isz_edge hg1 (by simp only [Nat.min_def]; split <;> omega) rfl
      (fun j v hj => by
        match j, hj with
        | 0, hj => simp at hj; subst hj; simp [World.cell?, hv1, Addr.add_lit]
        | 1, hj => simp at hj; subst hj; simp [World.cell?, hv1, Addr.add_lit]
        | j + 2, hj => simp at hj)
      (by simp; omega) (by simp [Value.oneCell'])
    rw [this, hW1, setRow_setRow]
    rfl
  subst hW1
  clear hg hv hcs hvb hgd hlc hsl hg1 hv1 hl1 h1
  have hz2 : ¬ ((i : Int) = (n : Int)) := by omega
  have hw1 : IntKind.i64.wrap ((i : Int) + 1) = (i : Int) + 1 := by rw [IntKind.wrap_i64]; omega
  have hin : i ≤ n := by omega
  have hb1 : (0 : Int) ≤ (i : Int) + 1 := by omega
  have htn : ((i : Int) + 1).toNat = i + 1 := by omega
  have hb2 : ¬ (cap = i + 1) := by omega
  have hb3 : (i : Int) ≤ (n : Int) + 1 := by omega
  have hb4 : ¬ (cap = i) := by omega
  go_enter Try.func28, Try.ntmps28
  go_wp2_with fail
  have hcp1 := HCP1.out
  go_region_with fail
  clear hcp1
  have hcp2 := HCP2.out
  go_wp2_with fail
  go_ret
  exact ⟨rfl, rfl⟩
end Go.Proofs.Ythkdjklpegmnnaa.Tri
