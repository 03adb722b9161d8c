/- The contract of slices.Insert at edges: in their midst, with no room; and all roads. -/
import Derived.Test.YthkdjklpegmnnaaTrieH
namespace Go.Proofs.Ythkdjklpegmnnaa.Tri
open Go Go.RowKit Go.Lib Go.Maps
set_option linter.unusedVariables false

abbrev zE : Value := .agg #[.int .u8 0, .int .i64 0]
/-- the new row, ahead of the two copies, behind the first one, behind both -/
def gr0 (cur : List Value) (i n G : Nat) : List Value := cur.take (i * 2) ++ (Builtin.zeroCells zE.cells (n + 1 - i)).toList ++ (Builtin.zeroCells zE.cells (G - (n + 1))).toList
def gr1 (cur : List Value) (i n G : Nat) (x : List Value) : List Value := (gr0 cur i n G).take (i * 2) ++ x ++ (gr0 cur i n G).drop (i * 2 + x.length)
def gr2 (cur : List Value) (i n G : Nat) (x : List Value) : List Value := (gr1 cur i n G x).take ((i + 1) * 2) ++ (cur.take (n * 2)).drop (i * 2) ++ (gr1 cur i n G x).drop ((i + 1) * 2 + ((cur.take (n * 2)).drop (i * 2)).length)
theorem zc_len (m : Nat) : (Builtin.zeroCells zE.cells m).toList.length = m * 2 := by simp [Builtin.zeroCells, Value.cells]
theorem gr0_len {cur : List Value} {i n G : Nat} (hi : i < n) (hn : n * 2 ≤ cur.length) (hG : n + 1 ≤ G) : (gr0 cur i n G).length = G * 2 := by
  unfold gr0
  rw [List.length_append, List.length_append, zc_len, zc_len, List.length_take]; omega
theorem gr1_len {cur : List Value} {i n G : Nat} {x : List Value} (hx : x.length = 2) (hi : i < n) (hn : n * 2 ≤ cur.length) (hG : n + 1 ≤ G) : (gr1 cur i n G x).length = G * 2 := by
  unfold gr1
  rw [List.length_append, List.length_append, List.length_take, List.length_drop, gr0_len hi hn hG, hx]; omega
theorem gr2_len {cur : List Value} {i n G : Nat} {x : List Value} (hx : x.length = 2) (hi : i < n) (hn : n * 2 ≤ cur.length) (hG : n + 1 ≤ G) : (gr2 cur i n G x).length = G * 2 := by
  unfold gr2
  rw [seg_len (by omega) hn, List.length_append, List.length_append, seg_len (by omega) hn, List.length_take, List.length_drop, gr1_len hx hi hn hG]; omega
theorem gr2_take {cur : List Value} {i n G : Nat} {x : List Value} (hx : x.length = 2) (hi : i < n) (hn : n * 2 ≤ cur.length) (hG : n + 1 ≤ G) : (gr2 cur i n G x).take ((n + 1) * 2) = (cur.take (n * 2)).take (i * 2) ++ x ++ (cur.take (n * 2)).drop (i * 2) := by
  have hl := gr1_len hx hi hn hG
  have hl0 := gr0_len hi hn hG
  have hs := seg_len (cur := cur) (i := i) (n := n) (by omega) hn
  have e0 : (gr0 cur i n G).take (i * 2) = cur.take (i * 2) := by
    unfold gr0
    rw [List.append_assoc, List.take_append_of_le_length (by rw [List.length_take]; omega), List.take_take, Nat.min_self]
  have e1 : (gr1 cur i n G x).take ((i + 1) * 2) = cur.take (i * 2) ++ x := by
    unfold gr1
    have h1 : ((gr0 cur i n G).take (i * 2) ++ x).length = (i + 1) * 2 := by rw [List.length_append, List.length_take, hx]; omega
    rw [← h1, List.take_append_of_le_length (Nat.le_refl _), List.take_length, e0]
  unfold gr2
  have h2 : ((gr1 cur i n G x).take ((i + 1) * 2) ++ (cur.take (n * 2)).drop (i * 2)).length = (n + 1) * 2 := by rw [List.length_append, List.length_take, hs]; omega
  rw [← h2, List.take_append_of_le_length (Nat.le_refl _), List.take_length, e1, List.take_take, show min (i * 2) (n * 2) = i * 2 by omega]
theorem getE2 {a b : Value} {w : World} {vb : Nat} (hv : w.heap[vb]? = some (.cells #[a, b] 52)) : ∀ j v, [a, b][j]? = some v → w.cell? ((⟨vb, 0, none⟩ : Addr).add j) = some v := fun j v hj => by
  match j, hj with
  | 0, hj => simp at hj; subst hj; simp [World.cell?, hv, Addr.add_lit]
  | 1, hj => simp at hj; subst hj; simp [World.cell?, hv, Addr.add_lit]
  | j + 2, hj => simp at hj
set_option maxRecDepth 100000 in
set_option maxHeartbeats 4000000 in
theorem Insert_grow (g cap n i : Nat) (c : UInt8) (k : Int) (vb : Nat) (cur : Array Value) (w : World) (hi : i < n) (hnc : n ≤ cap) (hroom : cap < n + 1) (hlen : n ≤ 1000) (hg : w.heap[g]? = some (.cells cur 52 (0, 0))) (hcs : cur.size = cap * 2)
    (h1 : ∀ v ∈ cur.toList.take (n * 2), v.oneCell' = true) (hv : w.heap[vb]? = some (.cells #[.int .u8 (c.toNat : Int), .int .i64 k] 52)) :
    Calls Try.prog 28 #[.slice (some ⟨g, 0, none⟩) n cap, .int .i64 i, .slice (some ⟨vb, 0, none⟩) 1 1] w fun e w' => ∃ G, n + 1 ≤ G ∧ G ≤ maxLen ∧ e = .returned (.slice (some ⟨w.heap.size, 0, none⟩) (n + 1) G) ∧ w'.heap[w.heap.size]? = some (.cells (gr2 cur.toList i n G [.int .u8 (c.toNat : Int), .int .i64 k]).toArray 52 (0, 0)) ∧ w.grownBy w' none := by
  obtain ⟨i0, hi0, hz0, hz1, hz2⟩ := info_parts info_edge
  have hlc : cur.toList.length = cap * 2 := by rw [Array.length_toList, hcs]
  have hsl := seg_len (cur := cur.toList) (i := i) (n := n) (by omega) (by omega)
  obtain ⟨G, hG⟩ : ∃ G, G = grownCap w (n + 1) cap 52 := ⟨_, rfl⟩
  have hGn : n + 1 ≤ G := by rw [hG]; exact grownCap_ge w _ _ _
  have hG63 : G ≤ maxLen := by rw [hG]; exact grownCap_le_maxLen w (n + 1) cap 52 (by unfold maxLen; omega)
  obtain ⟨X, hX⟩ : ∃ X : List Value, X = [.int .u8 (c.toNat : Int), .int .i64 k] := ⟨_, rfl⟩
  have hXl : X.length = 2 := by rw [hX]; rfl
  have hX1 : ∀ v ∈ X, v.oneCell' = true := by rw [hX]; simp [Value.oneCell']
  have hl0 := gr0_len (cur := cur.toList) hi (by omega) hGn
  have hl1 := gr1_len (cur := cur.toList) hXl hi (by omega) hGn
  have hold : (Builtin.firstCells i0.size i (.slice (some ⟨g, 0, none⟩) i cap)).run Try.prog w.drew = .ok (cur.toList.take (i * 2)).toArray w.drew := by
    rw [hz1]
    exact run_firstCells_some w.drew 2 i ⟨g, 0, none⟩ i cap (cur.toList.take (i * 2)) (by rw [List.length_take]; omega) (fun j v hj => by
      rw [Addr.add_lit]
      rw [List.getElem?_take] at hj
      split at hj
      · rw [World.cell?, show w.drew.heap[g]? = some (.cells cur 52 (0, 0)) from hg]; simpa using hj
      · cases hj)
  have HRZ : Hid (∀ ty, (Builtin.append_ #[45, 3] ty #[.slice (some ⟨g, 0, none⟩) i cap, .int .i64 ((n : Int) + 1 - (i : Int))]).run Try.prog w =
      .ok (.slice (some ⟨w.heap.size, 0, none⟩) (n + 1) G) (w.alloc (.cells (gr0 cur.toList i n G).toArray 52)).drew) := fun ty => by
    have h := Lib.run_append_grow_zeros w 45 3 ty 52 i0 _ .i64 .i64 Try.underlying45 Try.underlying3 hi0 hz0 (some ⟨g, 0, none⟩) i cap (cur.toList.take (i * 2)) hold (n + 1 - i) (by omega) (by omega) (by omega) (by omega) (by rw [hz2]; omega) (by rw [hz2, show i + (n + 1 - i) = n + 1 by omega]; exact growslice_fits hroom (by omega))
    rw [show i + (n + 1 - i) = n + 1 by omega, ← hG] at h
    rw [show (n : Int) + 1 - (i : Int) = ((n + 1 - i : Nat) : Int) by omega, h, show (gr0 cur.toList i n G).toArray = (cur.toList.take (i * 2)).toArray ++ Builtin.zeroCells zE.cells (n + 1 - i) ++ Builtin.zeroCells zE.cells (G - (n + 1)) by unfold gr0; simp]
    rfl
  have hvw : vb < w.heap.size := (Array.getElem?_eq_some_iff.1 hv).1
  have hgw : g < w.heap.size := (Array.getElem?_eq_some_iff.1 hg).1
  obtain ⟨W1, hW1⟩ : ∃ W1, W1 = (w.alloc (.cells (gr0 cur.toList i n G).toArray 52)).drew := ⟨_, rfl⟩
  have hH1 : W1.heap[w.heap.size]? = some (.cells (gr0 cur.toList i n G).toArray 52 (0, 0)) := by rw [hW1]; exact heap_alloc_new w _
  have hb1 : w.grownBy W1 none := by
    rw [hW1]
    exact ⟨rfl, rfl, rfl, by simp, fun k hk _ => heap_alloc_old w _ hk⟩
  have hv1 : W1.heap[vb]? = some (.cells #[.int .u8 (c.toNat : Int), .int .i64 k] 52) := (hb1.block vb hvw (by simp)).trans hv
  have HCP1 : Hid (∀ ty dc, (Builtin.copy_ #[45, 45] ty #[.slice (some ⟨w.heap.size, i * 2, none⟩) (n + 1 - i) dc, .slice (some ⟨vb, 0, none⟩) 1 1]).run Try.prog W1 = .ok (goInt 1) (W1.setRow w.heap.size (gr1 cur.toList i n G X).toArray)) := fun ty dc => by
    have := run_copy_rowS (P := Try.prog) W1 45 45 ty 52 w.heap.size (i * 2) (n + 1 - i) dc ⟨vb, 0, none⟩ 1 1 (gr0 cur.toList i n G).toArray 52 X 2 1 Try.underlying45 isz_edge hH1 (by simp only [Nat.min_def]; split <;> omega) (by rw [hXl])
      (by rw [hX]; exact getE2 hv1) (by simp; omega) hX1
    rw [this]
    rfl
  obtain ⟨W2, hW2⟩ : ∃ W2, W2 = (W1.setRow w.heap.size (gr1 cur.toList i n G X).toArray).drew := ⟨_, rfl⟩
  have hH2 : W2.heap[w.heap.size]? = some (.cells (gr1 cur.toList i n G X).toArray 52 (0, 0)) := by rw [hW2]; exact setRow_heap _ _ _ _ _ _ hH1
  have hg2 : W2.heap[g]? = some (.cells cur 52 (0, 0)) := by
    rw [hW2]
    show (W1.setRow w.heap.size (gr1 cur.toList i n G X).toArray).heap[g]? = _
    rw [(setRow_grown hH1).block g (by have := hb1.size; omega) (by simp; omega), hb1.block g hgw (by simp)]
    exact hg
  have HCP2 : Hid (∀ ty dc sc, (Builtin.copy_ #[45, 45] ty #[.slice (some ⟨w.heap.size, (i + 1) * 2, none⟩) (n - i) dc, .slice (some ⟨g, i * 2, none⟩) (n - i) sc]).run Try.prog W2 = .ok (goInt ((n - i : Nat) : Int)) (W2.setRow w.heap.size (gr2 cur.toList i n G X).toArray)) := fun ty dc sc => by
    have := run_copy_rowS (P := Try.prog) W2 45 45 ty 52 w.heap.size ((i + 1) * 2) (n - i) dc ⟨g, i * 2, none⟩ (n - i) sc (gr1 cur.toList i n G X).toArray 52 ((cur.toList.take (n * 2)).drop (i * 2)) 2 (n - i) Try.underlying45 isz_edge hH2 (by simp only [Nat.min_def]; split <;> omega) hsl
      (fun j v hj => by
        rw [Addr.add_lit]
        rw [List.getElem?_drop, List.getElem?_take] at hj
        split at hj
        · rw [World.cell?, hg2]; simpa using hj
        · cases hj)
      (by simp; omega) (fun v hv => h1 v (List.mem_of_mem_drop hv))
    rw [this]
    rfl
  have HEnd : Hid ((W2.setRow w.heap.size (gr2 cur.toList i n G X).toArray).heap[w.heap.size]? = some (.cells (gr2 cur.toList i n G X).toArray 52 (0, 0)) ∧ w.grownBy (W2.setRow w.heap.size (gr2 cur.toList i n G X).toArray) none) := by
    refine ⟨setRow_heap W2 w.heap.size _ _ _ _ hH2, ?_⟩
    have a1 := setRow_grown (cur' := (gr1 cur.toList i n G X).toArray) hH1
    have a2 := setRow_grown (cur' := (gr2 cur.toList i n G X).toArray) hH2
    refine ⟨?_, ?_, ?_, ?_, fun k hk _ => ?_⟩
    · rw [a2.os, hW2]; show (W1.setRow w.heap.size (gr1 cur.toList i n G X).toArray).os = _; rw [a1.os, hb1.os]
    · rw [a2.tape, hW2]; show (W1.setRow w.heap.size (gr1 cur.toList i n G X).toArray).tape = _; rw [a1.tape, hb1.tape]
    · rw [a2.output, hW2]; show (W1.setRow w.heap.size (gr1 cur.toList i n G X).toArray).output = _; rw [a1.output, hb1.output]
    · have s1 := a1.size
      have s2 := a2.size
      have s3 := hb1.size
      have s4 : W2.heap.size = (W1.setRow w.heap.size (gr1 cur.toList i n G X).toArray).heap.size := by rw [hW2]; rfl
      omega
    · have s3 := hb1.size
      have s1 := a1.size
      have s4 : W2.heap.size = (W1.setRow w.heap.size (gr1 cur.toList i n G X).toArray).heap.size := by rw [hW2]; rfl
      rw [a2.block k (by omega) (by simp; omega), hW2]
      show (W1.setRow w.heap.size (gr1 cur.toList i n G X).toArray).heap[k]? = _
      rw [a1.block k (by omega) (by simp; omega), hb1.block k hk (by simp)]
  subst hX
  subst hW2
  subst hW1
  clear hg hv hcs hlc hsl hH1 hH2 hg2 hv1 hb1 hl0 hl1 h1 hold hG hXl hX1 hz0 hz1 hz2 hi0 i0
  have hz2 : ¬ ((i : Int) = (n : Int)) := by omega
  have hz3 : (cap : Int) < (n : Int) + 1 := by omega
  have hw1 : IntKind.i64.wrap ((i : Int) + 1) = (i : Int) + 1 := by rw [IntKind.wrap_i64]; omega
  have hin : i ≤ n := by omega
  have hbb1 : (0 : Int) ≤ (i : Int) + 1 := by omega
  have htn : ((i : Int) + 1).toNat = i + 1 := by omega
  have hGi : ¬ (G = i) := by omega
  have hGim : ¬ (G = i + 1) := by omega
  have hci : ¬ (cap = i) := by omega
  have hb3 : (i : Int) ≤ (n : Int) := by omega
  have HGM := hideH hG63
  unfold maxLen at hG63
  go_enter Try.func28, Try.ntmps28
  have hcp1 := HCP1.out
  go_wp2_with (at_builtin; refine Lib.wpList_append_run _ rfl _ _ _ _ rfl _ _ rfl rfl _ _ (HRZ.out _) ?_)
  clear hcp1
  have hcp2 := HCP2.out
  go_region_with fail
  clear hcp2
  go_wp2_with fail
  go_ret
  exact ⟨G, hGn, HGM.out, rfl, HEnd.out⟩
/-- with an edge more -/
abbrev put1 (es : List (UInt8 × Int)) (i : Nat) (c : UInt8) (k : Int) : List (UInt8 × Int) := es.take i ++ (c, k) :: es.drop i
theorem put1_cells (es : List (UInt8 × Int)) (i : Nat) (c : UInt8) (k : Int) : ecells (put1 es i c k) = (ecells es).take (i * 2) ++ [.int .u8 (c.toNat : Int), .int .i64 k] ++ (ecells es).drop (i * 2) := by
  unfold put1
  rw [ecells_append, ecells_cons, ecells_take, ecells_drop, List.append_assoc]; rfl
theorem put1_len (es : List (UInt8 × Int)) (i : Nat) (c : UInt8) (k : Int) (h : i ≤ es.length) : (put1 es i c k).length = es.length + 1 := by
  simp [put1]; omega
theorem Insert_own (base : Nat) (v : Value) (es : List (UInt8 × Int)) (i : Nat) (c : UInt8) (k : Int) (vb : Nat) (w : World) (hown : w.ownsRow base 52 2 v es.length (ecells es)) (hi : i ≤ es.length) (hlen : es.length ≤ 1000) (hb : base ≤ w.heap.size)
    (hv : w.heap[vb]? = some (.cells #[.int .u8 (c.toNat : Int), .int .i64 k] 52)) (hvb : v.ownBlock ≠ some vb) :
    Calls Try.prog 28 #[v, .int .i64 i, .slice (some ⟨vb, 0, none⟩) 1 1] w fun e w' => inP base v (es.length + 1) (ecells (put1 es i c k)) w e w' := by
  rcases Nat.lt_or_ge i es.length with hlt | hge
  · rcases hown.2 with ⟨_, h0⟩ | ⟨g, cap, cur, rfl, hbg, hg, hnc, hcm, hcs, htake⟩
    · omega
    have h1 : ∀ v ∈ cur.toList.take (es.length * 2), v.oneCell' = true := by rw [htake]; exact ecells_one es
    have hlc : cur.toList.length = cap * 2 := by rw [Array.length_toList, hcs]
    have hcm' := hcm
    unfold maxLen at hcm'
    by_cases hroom : es.length + 1 ≤ cap
    · refine (Insert_room g cap es.length i c k vb cur w hlt hroom hlen hcm' hg hcs h1 hv (fun e => hvb (by rw [e]; rfl))).mono ?_
      rintro e w' ⟨rfl, rfl⟩
      have hgd : w.drew.heap[g]? = some (.cells cur 52 (0, 0)) := hg
      have a1 := setRow_grown (cur' := (sh2 cur.toList i es.length [.int .u8 (c.toNat : Int), .int .i64 k]).toArray) hgd
      refine ⟨_, rfl, ⟨by rw [ecells_len, put1_len _ _ _ _ hi], .inr ⟨g, cap, _, rfl, hbg, setRow_heap _ _ _ _ _ _ hgd, hroom, hcm, ?_, ?_⟩⟩, ⟨a1.os, a1.tape, a1.output, a1.size, a1.block⟩, .inl rfl⟩
      · rw [List.size_toArray, sh2_len rfl hlt (by omega), hlc]
      · rw [List.toList_toArray, sh2_take rfl hlt (by omega), htake, put1_cells]
    · refine (Insert_grow g cap es.length i c k vb cur w hlt hnc (by omega) hlen hg hcs h1 hv).mono ?_
      rintro e w' ⟨G, hG1, hG2, rfl, hh, hgr⟩
      refine ⟨_, rfl, ⟨by rw [ecells_len, put1_len _ _ _ _ hi], .inr ⟨w.heap.size, G, _, rfl, hb, hh, hG1, hG2, ?_, ?_⟩⟩, ⟨hgr.os, hgr.tape, hgr.output, hgr.size, fun k hk _ => hgr.block k hk (by simp)⟩, .inr ⟨w.heap.size, rfl, Nat.le_refl _⟩⟩
      · rw [List.size_toArray, gr2_len rfl hlt (by omega) hG1]
      · rw [List.toList_toArray, gr2_take rfl hlt (by omega) hG1, htake, put1_cells]
  · obtain rfl : i = es.length := by omega
    exact Insert_end base v es c k vb w hown hlen hb hv
end Go.Proofs.Ythkdjklpegmnnaa.Tri
