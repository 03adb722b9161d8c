/- The contract of slices.Insert at edges, of a row of the call's own. -/
import Derived.Test.YtfjjdicgekgbeaaGreatDoorTrieMAll
import Derived.Deep.AppendLies
import Derived.Laws.OwnMore
import Derived.Laws.CopyRow
import Derived.Shelf.Spec.SlicesInsertGrow
import Derived.Laws.Externs
import Derived.Deep.RegionHeld3
import Derived.KernelRfl
namespace Go.Proofs.YtfjjdicgekgbeaaGreatDoor.Tri
open Go Go.RowKit Go.Lib Go.Maps
set_option linter.unusedVariables false

/-- edges as cells -/
def ecells (es : List (UInt8 × Int)) : List Value := es.flatMap fun e => [.int .u8 (e.1.toNat : Int), .int .i64 e.2]
theorem ecells_nil : ecells [] = [] := rfl
theorem ecells_cons (e : UInt8 × Int) (es : List (UInt8 × Int)) : ecells (e :: es) = .int .u8 (e.1.toNat : Int) :: .int .i64 e.2 :: ecells es := rfl
theorem ecells_append (a b : List (UInt8 × Int)) : ecells (a ++ b) = ecells a ++ ecells b := by unfold ecells; rw [List.flatMap_append]
theorem ecells_len : ∀ (es : List (UInt8 × Int)), (ecells es).length = es.length * 2
  | [] => rfl
  | e :: es => by rw [ecells_cons, List.length_cons, List.length_cons, ecells_len es, List.length_cons]; omega
theorem ecells_take : ∀ (es : List (UInt8 × Int)) (i : Nat), (ecells es).take (i * 2) = ecells (es.take i)
  | es, 0 => by simp [ecells_nil]
  | [], i + 1 => by simp [ecells_nil]
  | e :: es, i + 1 => by
    rw [ecells_cons, show (i + 1) * 2 = i * 2 + 1 + 1 by omega, List.take_succ_cons, List.take_succ_cons, ecells_take es i, List.take_succ_cons, ecells_cons]
theorem ecells_drop : ∀ (es : List (UInt8 × Int)) (i : Nat), (ecells es).drop (i * 2) = ecells (es.drop i)
  | es, 0 => by simp
  | [], i + 1 => by simp [ecells_nil]
  | e :: es, i + 1 => by
    rw [ecells_cons, show (i + 1) * 2 = i * 2 + 1 + 1 by omega, List.drop_succ_cons, List.drop_succ_cons, ecells_drop es i, List.drop_succ_cons]
theorem ecells_one : ∀ (es : List (UInt8 × Int)), ∀ v ∈ ecells es, v.oneCell' = true
  | [], v, h => by simp [ecells_nil] at h
  | e :: es, v, h => by
    rw [ecells_cons, List.mem_cons, List.mem_cons] at h
    rcases h with h | h | h
    · rw [h]; rfl
    · rw [h]; rfl
    · exact ecells_one es v h
/-- copy, of elements of whatever size, into a row that nothing of is frozen -/
theorem run_copy_rowS {P : Program} (w : World) (dT sT ty elem : TypeId) (g o dLen dCap : Nat) (a : Addr) (sLen sCap : Nat) (cur : Array Value) (t : TypeId) (cs : List Value) (S N : Nat)
    (hu : P.underlying dT = some (.slice elem)) (hs : (P.info? elem).map (·.size) = some S)
    (hg : w.heap[g]? = some (.cells cur t (0, 0))) (hN : Nat.min sLen dLen = N) (hn : cs.length = N * S)
    (hsrc : ∀ j v, cs[j]? = some v → w.cell? (a.add j) = some v) (hfit : o + cs.length ≤ cur.size) (h1 : ∀ v ∈ cs, v.oneCell' = true) :
    (Builtin.copy_ #[dT, sT] ty #[.slice (some ⟨g, o, none⟩) dLen dCap, .slice (some a) sLen sCap]).run P w =
      .ok (goInt N) (w.setRow g (cur.toList.take o ++ cs ++ cur.toList.drop (o + cs.length)).toArray) := by
  have hl := run_loadCells_list (P := P) w a cs hsrc
  have hst := run_storeCells_at P g o t cs 0 cur w hg (by simpa using hfit) h1
  cases hq : P.info? elem with
  | none => simp [hq] at hs
  | some i =>
    have hi : i.size = S := by simpa [hq] using hs
    simp [Builtin.copy_, run_underlying hu, Builtin.lenOf, Builtin.firstCells, sizeOf, typeInfo, hq, hi, hN, ← hn, hl, hst]
theorem setRow_grown {w : World} {g : Nat} {cur cur' : Array Value} {t : TypeId} (hg : w.heap[g]? = some (.cells cur t (0, 0))) : w.grownBy (w.setRow g cur') (some g) := by
  refine ⟨rfl, rfl, rfl, by simp [World.setRow], fun k hk hne => ?_⟩
  unfold World.setRow
  rw [Array.getElem?_modify, if_neg (fun e => hne (by rw [e]))]
theorem info_edge : (Tryz.prog.info? 45).map (fun i => (i.zero, i.size, i.bytes)) = some (some (.agg #[.int .u8 0, .int .i64 0]), 2, 16) := by kernel_rfl
/-- what slices.Insert leaves -/
def inP (base : Nat) (v : Value) (n : Nat) (xs : List Value) (w : World) (e : Ending) (w' : World) : Prop :=
  ∃ v', e = .returned v' ∧ w'.ownsRow base 45 2 v' n xs ∧ w.grownBy w' v.ownBlock ∧ (v'.ownBlock = v.ownBlock ∨ ∃ g, v'.ownBlock = some g ∧ w.heap.size ≤ g)
theorem ins_end (es : List (UInt8 × Int)) (c : UInt8) (k : Int) : ecells (es.take es.length ++ (c, k) :: es.drop es.length) = ecells es ++ [.int .u8 (c.toNat : Int), .int .i64 k] := by
  rw [List.take_length, List.drop_length, ecells_append]; rfl
set_option maxRecDepth 100000 in
set_option maxHeartbeats 4000000 in
theorem Insert_end (base : Nat) (v : Value) (es : List (UInt8 × Int)) (c : UInt8) (k : Int) (vb : Nat) (w : World) (hown : w.ownsRow base 45 2 v es.length (ecells es)) (hlen : es.length ≤ 1000) (hb : base ≤ w.heap.size) (hv : w.heap[vb]? = some (.cells #[.int .u8 (c.toNat : Int), .int .i64 k] 45)) :
    Calls Tryz.prog 43 #[v, .int .i64 es.length, .slice (some ⟨vb, 0, none⟩) 1 1] w fun e w' => inP base v (es.length + 1) (ecells (es.take es.length ++ (c, k) :: es.drop es.length)) w e w' := by
  obtain ⟨i0, hi, hz0, hz1, hz2⟩ := info_parts info_edge
  rw [ins_end]
  have hnews : ∀ j u, [Value.int .u8 (c.toNat : Int), Value.int .i64 k][j]? = some u → w.cell? ((⟨vb, 0, none⟩ : Addr).add j) = some u := fun j u hj => by
    match j, hj with
    | 0, hj => simp at hj; subst hj; simp [World.cell?, hv, Addr.add_lit]
    | 1, hj => simp at hj; subst hj; simp [World.cell?, hv, Addr.add_lit]
    | j + 2, hj => simp at hj
  have HN := hideH hnews
  have HO := hideH hown
  have HB := hideH hb
  obtain ⟨n, hn⟩ : ∃ n, n = es.length := ⟨_, rfl⟩
  obtain ⟨xs, hxs⟩ : ∃ xs, xs = ecells es := ⟨_, rfl⟩
  rw [← hn, ← hxs] at HO
  rw [← hn] at hlen ⊢
  rw [← hxs]
  clear hnews hv hb hxs hn hown
  rcases HO.out.2 with ⟨rfl, h0⟩ | ⟨g, cap, cur, rfl, hbg, hg, hnc, hcm, hcs, htake⟩
  · subst h0
    go_enter Tryz.func43, Tryz.ntmps43
    go_wp2_with (at_builtin; refine wpList_append_lies _ rfl _ _ 41 rfl base 45 i0 _ 2 16 Tryz.underlying41 hi hz0 hz1 hz2 rfl (by decide) (.slice none 0 0) 0 xs rfl HO.out ⟨vb, 0, none⟩ 1 1 [.int .u8 (c.toNat : Int), .int .i64 k] rfl rfl HN.out (by simp [Value.oneCell']) (by decide) (by unfold maxLen; omega) (by omega) HB.out _ rfl ?_; intro g4 q4 w3 hown3 hgrow hat hl1)
    go_ret
    unfold inP
    refine ⟨_, rfl, hown3, hgrow, .inr ⟨g4, rfl, ?_⟩⟩
    rcases hat with h | h
    · simp [Value.ownBlock] at h
    · omega
  · unfold maxLen at hcm
    clear hbg hg hcs htake
    go_enter Tryz.func43, Tryz.ntmps43
    go_wp2_with (at_builtin; refine wpList_append_lies _ rfl _ _ 41 rfl base 45 i0 _ 2 16 Tryz.underlying41 hi hz0 hz1 hz2 rfl (by decide) (.slice (some ⟨g, 0, none⟩) n cap) n xs rfl HO.out ⟨vb, 0, none⟩ 1 1 [.int .u8 (c.toNat : Int), .int .i64 k] rfl rfl HN.out (by simp [Value.oneCell']) (by decide) (by unfold maxLen; omega) (by omega) HB.out _ rfl ?_; intro g4 q4 w3 hown3 hgrow hat hl1)
    all_goals
      go_ret
      unfold inP
      refine ⟨_, rfl, hown3, hgrow, ?_⟩
      rcases hat with h | h
      · exact .inl h.symm
      · exact .inr ⟨g4, rfl, by omega⟩
end Go.Proofs.YtfjjdicgekgbeaaGreatDoor.Tri

/- The contract of slices.Insert at edges: in their midst. -/
namespace Go.Proofs.YtfjjdicgekgbeaaGreatDoor.Tri
open Go Go.RowKit Go.Lib Go.Maps
set_option linter.unusedVariables false

theorem isz_edge : (Tryz.prog.info? 45).map (·.size) = some 2 := by kernel_rfl
theorem siz_edge (w : World) : (Go.sizeOf 45).run Tryz.prog w = .ok 2 w := by
  obtain ⟨i0, hi, hz0, hz1, hz2⟩ := info_parts info_edge
  simp [sizeOf, typeInfo, hi, hz1]
theorem over_no (g vb i : Nat) (c : UInt8) (k : Int) (cur : Array Value) (w : World) (hv : w.heap[vb]? = some (.cells #[.int .u8 (c.toNat : Int), .int .i64 k] 45)) (hg : w.heap[g]? = some (.cells cur 45 (0, 0))) (h0 : cur.size ≠ 0) (hvb : vb ≠ g) (o : Nat) :
    ∀ lb cb, (callFunc 70 #[.slice (some ⟨vb, 0, none⟩) 1 1, .slice (some ⟨g, o, none⟩) lb cb]).run Tryz.prog w = .ok (.value (.bool false)) w := fun lb cb => by
  rw [run_callFunc_extern Tryz.func70 (by kernel_rfl) (by kernel_rfl) (by kernel_rfl) (e := Extern.SlicesOverlaps.overlaps #[41, 41] #[4]) (by kernel_rfl),
    Lib.run_overlaps_apart w 41 4 45 Tryz.underlying41 2 siz_edge ⟨vb, 0, none⟩ ⟨g, o, none⟩ 1 1 lb cb hvb 45 45 2 cur.size (by simp [World.shape?, hv]) (by simp [World.shape?, hg]) h0 (by simp [World.frozen?, hv]) (by simp [World.frozen?, hv])]
  rfl
/-- what stands behind the two copies -/
def sh1 (cur : List Value) (i n : Nat) : List Value := cur.take ((i + 1) * 2) ++ (cur.take (n * 2)).drop (i * 2) ++ cur.drop ((i + 1) * 2 + ((cur.take (n * 2)).drop (i * 2)).length)
def sh2 (cur : List Value) (i n : Nat) (x : List Value) : List Value := (sh1 cur i n).take (i * 2) ++ x ++ (sh1 cur i n).drop (i * 2 + x.length)
theorem seg_len {cur : List Value} {i n : Nat} (hi : i ≤ n) (hn : n * 2 ≤ cur.length) : ((cur.take (n * 2)).drop (i * 2)).length = (n - i) * 2 := by
  rw [List.length_drop, List.length_take]; omega
theorem sh1_len {cur : List Value} {i n : Nat} (hi : i < n) (hn : (n + 1) * 2 ≤ cur.length) : (sh1 cur i n).length = cur.length := by
  unfold sh1
  rw [List.length_append, List.length_append, seg_len (by omega) (by omega), List.length_take, List.length_drop]; omega
theorem sh2_len {cur : List Value} {i n : Nat} {x : List Value} (hx : x.length = 2) (hi : i < n) (hn : (n + 1) * 2 ≤ cur.length) : (sh2 cur i n x).length = cur.length := by
  unfold sh2
  rw [List.length_append, List.length_append, List.length_take, List.length_drop, sh1_len hi hn, hx]; omega
theorem sh2_take {cur : List Value} {i n : Nat} {x : List Value} (hx : x.length = 2) (hi : i < n) (hn : (n + 1) * 2 ≤ cur.length) : (sh2 cur i n x).take ((n + 1) * 2) = (cur.take (n * 2)).take (i * 2) ++ x ++ (cur.take (n * 2)).drop (i * 2) := by
  have hl := sh1_len hi hn
  have e1 : (sh1 cur i n).take (i * 2) = (cur.take (n * 2)).take (i * 2) := by
    unfold sh1
    rw [List.append_assoc, List.take_append_of_le_length (by rw [List.length_take]; omega), List.take_take, List.take_take]
    congr 1; omega
  have e2 : ((sh1 cur i n).drop (i * 2 + 2)).take ((n - i) * 2) = (cur.take (n * 2)).drop (i * 2) := by
    unfold sh1
    have hs := seg_len (cur := cur) (i := i) (n := n) (by omega) (by omega)
    have ht : (cur.take ((i + 1) * 2)).length = i * 2 + 2 := by rw [List.length_take]; omega
    rw [List.append_assoc, ← ht, List.drop_append_of_le_length (Nat.le_refl _), List.drop_length, List.nil_append, List.take_append_of_le_length (by omega), List.take_of_length_le (by omega)]
  unfold sh2
  rw [List.append_assoc, List.take_append, List.take_append, hx]
  have l1 : ((sh1 cur i n).take (i * 2)).length = i * 2 := by rw [List.length_take]; omega
  rw [l1, List.take_of_length_le (by omega), List.take_of_length_le (l := x) (by omega), show (n + 1) * 2 - i * 2 - 2 = (n - i) * 2 by omega, e2, e1, List.append_assoc]
set_option maxRecDepth 100000 in
set_option maxHeartbeats 4000000 in
theorem Insert_room (g cap n i : Nat) (c : UInt8) (k : Int) (vb : Nat) (cur : Array Value) (w : World) (hi : i < n) (hroom : n + 1 ≤ cap) (hlen : n ≤ 1000) (hcm : cap ≤ 9223372036854775807) (hg : w.heap[g]? = some (.cells cur 45 (0, 0))) (hcs : cur.size = cap * 2)
    (h1 : ∀ v ∈ cur.toList.take (n * 2), v.oneCell' = true) (hv : w.heap[vb]? = some (.cells #[.int .u8 (c.toNat : Int), .int .i64 k] 45)) (hvb : vb ≠ g) :
    Calls Tryz.prog 43 #[.slice (some ⟨g, 0, none⟩) n cap, .int .i64 i, .slice (some ⟨vb, 0, none⟩) 1 1] w fun e w' => e = .returned (.slice (some ⟨g, 0, none⟩) (n + 1) cap) ∧ w' = w.drew.setRow g (sh2 cur.toList i n [.int .u8 (c.toNat : Int), .int .i64 k]).toArray := by
  have hov := over_no g vb i c k cur w hv hg (by omega) hvb ((i + 1) * 2)
  have hgd : w.drew.heap[g]? = some (.cells cur 45 (0, 0)) := hg
  have hlc : cur.toList.length = cap * 2 := by rw [Array.length_toList, hcs]
  have hsl := seg_len (cur := cur.toList) (i := i) (n := n) (by omega) (by omega)
  have HCP1 : Hid (∀ ty dc sc, (Builtin.copy_ #[41, 41] ty #[.slice (some ⟨g, (i + 1) * 2, none⟩) (n - i) dc, .slice (some ⟨g, i * 2, none⟩) (n + 1 - i) sc]).run Tryz.prog w.drew = .ok (goInt ((n - i : Nat) : Int)) (w.drew.setRow g (sh1 cur.toList i n).toArray)) := fun ty dc sc =>
    run_copy_rowS w.drew _ _ ty 45 g ((i + 1) * 2) (n - i) dc ⟨g, i * 2, none⟩ (n + 1 - i) sc cur 45 ((cur.toList.take (n * 2)).drop (i * 2)) 2 (n - i) Tryz.underlying41 isz_edge hgd (by simp only [Nat.min_def]; split <;> omega) hsl
      (fun j v hj => by
        rw [Addr.add_lit]
        rw [List.getElem?_drop, List.getElem?_take] at hj
        split at hj
        · rw [World.cell?, hgd]; simpa using hj
        · cases hj)
      (by omega) (fun v hv => h1 v (List.mem_of_mem_drop hv))
  obtain ⟨W1, hW1⟩ : ∃ W1, W1 = w.drew.setRow g (sh1 cur.toList i n).toArray := ⟨_, rfl⟩
  have hg1 : W1.heap[g]? = some (.cells (sh1 cur.toList i n).toArray 45 (0, 0)) := by rw [hW1]; exact setRow_heap _ _ _ _ _ _ hgd
  have hv1 : W1.heap[vb]? = some (.cells #[.int .u8 (c.toNat : Int), .int .i64 k] 45) := by
    rw [hW1, (setRow_grown hgd).block vb (by show vb < w.heap.size; exact (Array.getElem?_eq_some_iff.1 hv).1) (by simpa using hvb)]
    exact hv
  have hl1 := sh1_len (cur := cur.toList) (i := i) (n := n) hi (by omega)
  have HCP2 : Hid (∀ ty dc, (Builtin.copy_ #[41, 41] ty #[.slice (some ⟨g, i * 2, none⟩) (n + 1 - i) dc, .slice (some ⟨vb, 0, none⟩) 1 1]).run Tryz.prog W1 = .ok (goInt 1) (w.drew.setRow g (sh2 cur.toList i n [.int .u8 (c.toNat : Int), .int .i64 k]).toArray)) := fun ty dc => by
    have := run_copy_rowS (P := Tryz.prog) W1 41 41 ty 45 g (i * 2) (n + 1 - i) dc ⟨vb, 0, none⟩ 1 1 (sh1 cur.toList i n).toArray 45 [.int .u8 (c.toNat : Int), .int .i64 k] 2 1 Tryz.underlying41 isz_edge hg1 (by simp only [Nat.min_def]; split <;> omega) rfl
      (fun j v hj => by
        match j, hj with
        | 0, hj => simp at hj; subst hj; simp [World.cell?, hv1, Addr.add_lit]
        | 1, hj => simp at hj; subst hj; simp [World.cell?, hv1, Addr.add_lit]
        | j + 2, hj => simp at hj)
      (by simp; omega) (by simp [Value.oneCell'])
    rw [this, hW1, setRow_setRow]
    rfl
  subst hW1
  clear hg hv hcs hvb hgd hlc hsl hg1 hv1 hl1 h1
  have hz2 : ¬ ((i : Int) = (n : Int)) := by omega
  have hw1 : IntKind.i64.wrap ((i : Int) + 1) = (i : Int) + 1 := by rw [IntKind.wrap_i64]; omega
  have hin : i ≤ n := by omega
  have hb1 : (0 : Int) ≤ (i : Int) + 1 := by omega
  have htn : ((i : Int) + 1).toNat = i + 1 := by omega
  have hb2 : ¬ (cap = i + 1) := by omega
  have hb3 : (i : Int) ≤ (n : Int) + 1 := by omega
  have hb4 : ¬ (cap = i) := by omega
  go_enter Tryz.func43, Tryz.ntmps43
  go_wp2_with fail
  have hcp1 := HCP1.out
  go_region_with fail
  clear hcp1
  have hcp2 := HCP2.out
  go_wp2_with fail
  go_ret
  exact ⟨rfl, rfl⟩
end Go.Proofs.YtfjjdicgekgbeaaGreatDoor.Tri

/- The contract of slices.Insert at edges: in their midst, with no room; and all roads. -/
namespace Go.Proofs.YtfjjdicgekgbeaaGreatDoor.Tri
open Go Go.RowKit Go.Lib Go.Maps
set_option linter.unusedVariables false

abbrev zE : Value := .agg #[.int .u8 0, .int .i64 0]
/-- the new row, ahead of the two copies, behind the first one, behind both -/
def gr0 (cur : List Value) (i n G : Nat) : List Value := cur.take (i * 2) ++ (Builtin.zeroCells zE.cells (n + 1 - i)).toList ++ (Builtin.zeroCells zE.cells (G - (n + 1))).toList
def gr1 (cur : List Value) (i n G : Nat) (x : List Value) : List Value := (gr0 cur i n G).take (i * 2) ++ x ++ (gr0 cur i n G).drop (i * 2 + x.length)
def gr2 (cur : List Value) (i n G : Nat) (x : List Value) : List Value := (gr1 cur i n G x).take ((i + 1) * 2) ++ (cur.take (n * 2)).drop (i * 2) ++ (gr1 cur i n G x).drop ((i + 1) * 2 + ((cur.take (n * 2)).drop (i * 2)).length)
theorem zc_len (m : Nat) : (Builtin.zeroCells zE.cells m).toList.length = m * 2 := by simp [Builtin.zeroCells, Value.cells]
theorem gr0_len {cur : List Value} {i n G : Nat} (hi : i < n) (hn : n * 2 ≤ cur.length) (hG : n + 1 ≤ G) : (gr0 cur i n G).length = G * 2 := by
  unfold gr0
  rw [List.length_append, List.length_append, zc_len, zc_len, List.length_take]; omega
theorem gr1_len {cur : List Value} {i n G : Nat} {x : List Value} (hx : x.length = 2) (hi : i < n) (hn : n * 2 ≤ cur.length) (hG : n + 1 ≤ G) : (gr1 cur i n G x).length = G * 2 := by
  unfold gr1
  rw [List.length_append, List.length_append, List.length_take, List.length_drop, gr0_len hi hn hG, hx]; omega
theorem gr2_len {cur : List Value} {i n G : Nat} {x : List Value} (hx : x.length = 2) (hi : i < n) (hn : n * 2 ≤ cur.length) (hG : n + 1 ≤ G) : (gr2 cur i n G x).length = G * 2 := by
  unfold gr2
  rw [seg_len (by omega) hn, List.length_append, List.length_append, seg_len (by omega) hn, List.length_take, List.length_drop, gr1_len hx hi hn hG]; omega
theorem gr2_take {cur : List Value} {i n G : Nat} {x : List Value} (hx : x.length = 2) (hi : i < n) (hn : n * 2 ≤ cur.length) (hG : n + 1 ≤ G) : (gr2 cur i n G x).take ((n + 1) * 2) = (cur.take (n * 2)).take (i * 2) ++ x ++ (cur.take (n * 2)).drop (i * 2) := by
  have hl := gr1_len hx hi hn hG
  have hl0 := gr0_len hi hn hG
  have hs := seg_len (cur := cur) (i := i) (n := n) (by omega) hn
  have e0 : (gr0 cur i n G).take (i * 2) = cur.take (i * 2) := by
    unfold gr0
    rw [List.append_assoc, List.take_append_of_le_length (by rw [List.length_take]; omega), List.take_take, Nat.min_self]
  have e1 : (gr1 cur i n G x).take ((i + 1) * 2) = cur.take (i * 2) ++ x := by
    unfold gr1
    have h1 : ((gr0 cur i n G).take (i * 2) ++ x).length = (i + 1) * 2 := by rw [List.length_append, List.length_take, hx]; omega
    rw [← h1, List.take_append_of_le_length (Nat.le_refl _), List.take_length, e0]
  unfold gr2
  have h2 : ((gr1 cur i n G x).take ((i + 1) * 2) ++ (cur.take (n * 2)).drop (i * 2)).length = (n + 1) * 2 := by rw [List.length_append, List.length_take, hs]; omega
  rw [← h2, List.take_append_of_le_length (Nat.le_refl _), List.take_length, e1, List.take_take, show min (i * 2) (n * 2) = i * 2 by omega]
theorem getE2 {a b : Value} {w : World} {vb : Nat} (hv : w.heap[vb]? = some (.cells #[a, b] 45)) : ∀ j v, [a, b][j]? = some v → w.cell? ((⟨vb, 0, none⟩ : Addr).add j) = some v := fun j v hj => by
  match j, hj with
  | 0, hj => simp at hj; subst hj; simp [World.cell?, hv, Addr.add_lit]
  | 1, hj => simp at hj; subst hj; simp [World.cell?, hv, Addr.add_lit]
  | j + 2, hj => simp at hj
set_option maxRecDepth 100000 in
set_option maxHeartbeats 4000000 in
theorem Insert_grow (g cap n i : Nat) (c : UInt8) (k : Int) (vb : Nat) (cur : Array Value) (w : World) (hi : i < n) (hnc : n ≤ cap) (hroom : cap < n + 1) (hlen : n ≤ 1000) (hg : w.heap[g]? = some (.cells cur 45 (0, 0))) (hcs : cur.size = cap * 2)
    (h1 : ∀ v ∈ cur.toList.take (n * 2), v.oneCell' = true) (hv : w.heap[vb]? = some (.cells #[.int .u8 (c.toNat : Int), .int .i64 k] 45)) :
    Calls Tryz.prog 43 #[.slice (some ⟨g, 0, none⟩) n cap, .int .i64 i, .slice (some ⟨vb, 0, none⟩) 1 1] w fun e w' => ∃ G, n + 1 ≤ G ∧ G ≤ maxLen ∧ e = .returned (.slice (some ⟨w.heap.size, 0, none⟩) (n + 1) G) ∧ w'.heap[w.heap.size]? = some (.cells (gr2 cur.toList i n G [.int .u8 (c.toNat : Int), .int .i64 k]).toArray 45 (0, 0)) ∧ w.grownBy w' none := by
  obtain ⟨i0, hi0, hz0, hz1, hz2⟩ := info_parts info_edge
  have hlc : cur.toList.length = cap * 2 := by rw [Array.length_toList, hcs]
  have hsl := seg_len (cur := cur.toList) (i := i) (n := n) (by omega) (by omega)
  obtain ⟨G, hG⟩ : ∃ G, G = grownCap w (n + 1) cap 45 := ⟨_, rfl⟩
  have hGn : n + 1 ≤ G := by rw [hG]; exact grownCap_ge w _ _ _
  have hG63 : G ≤ maxLen := by rw [hG]; exact grownCap_le_maxLen w (n + 1) cap 45 (by unfold maxLen; omega)
  obtain ⟨X, hX⟩ : ∃ X : List Value, X = [.int .u8 (c.toNat : Int), .int .i64 k] := ⟨_, rfl⟩
  have hXl : X.length = 2 := by rw [hX]; rfl
  have hX1 : ∀ v ∈ X, v.oneCell' = true := by rw [hX]; simp [Value.oneCell']
  have hl0 := gr0_len (cur := cur.toList) hi (by omega) hGn
  have hl1 := gr1_len (cur := cur.toList) hXl hi (by omega) hGn
  have hold : (Builtin.firstCells i0.size i (.slice (some ⟨g, 0, none⟩) i cap)).run Tryz.prog w.drew = .ok (cur.toList.take (i * 2)).toArray w.drew := by
    rw [hz1]
    exact run_firstCells_some w.drew 2 i ⟨g, 0, none⟩ i cap (cur.toList.take (i * 2)) (by rw [List.length_take]; omega) (fun j v hj => by
      rw [Addr.add_lit]
      rw [List.getElem?_take] at hj
      split at hj
      · rw [World.cell?, show w.drew.heap[g]? = some (.cells cur 45 (0, 0)) from hg]; simpa using hj
      · cases hj)
  have HRZ : Hid (∀ ty, (Builtin.append_ #[41, 3] ty #[.slice (some ⟨g, 0, none⟩) i cap, .int .i64 ((n : Int) + 1 - (i : Int))]).run Tryz.prog w =
      .ok (.slice (some ⟨w.heap.size, 0, none⟩) (n + 1) G) (w.alloc (.cells (gr0 cur.toList i n G).toArray 45)).drew) := fun ty => by
    have h := Lib.run_append_grow_zeros w 41 3 ty 45 i0 _ .i64 .i64 Tryz.underlying41 Tryz.underlying3 hi0 hz0 (some ⟨g, 0, none⟩) i cap (cur.toList.take (i * 2)) hold (n + 1 - i) (by omega) (by omega) (by omega) (by omega) (by rw [hz2]; omega) (by rw [hz2, show i + (n + 1 - i) = n + 1 by omega]; exact growslice_fits hroom (by omega))
    rw [show i + (n + 1 - i) = n + 1 by omega, ← hG] at h
    rw [show (n : Int) + 1 - (i : Int) = ((n + 1 - i : Nat) : Int) by omega, h, show (gr0 cur.toList i n G).toArray = (cur.toList.take (i * 2)).toArray ++ Builtin.zeroCells zE.cells (n + 1 - i) ++ Builtin.zeroCells zE.cells (G - (n + 1)) by unfold gr0; simp]
    rfl
  have hvw : vb < w.heap.size := (Array.getElem?_eq_some_iff.1 hv).1
  have hgw : g < w.heap.size := (Array.getElem?_eq_some_iff.1 hg).1
  obtain ⟨W1, hW1⟩ : ∃ W1, W1 = (w.alloc (.cells (gr0 cur.toList i n G).toArray 45)).drew := ⟨_, rfl⟩
  have hH1 : W1.heap[w.heap.size]? = some (.cells (gr0 cur.toList i n G).toArray 45 (0, 0)) := by rw [hW1]; exact heap_alloc_new w _
  have hb1 : w.grownBy W1 none := by
    rw [hW1]
    exact ⟨rfl, rfl, rfl, by simp, fun k hk _ => heap_alloc_old w _ hk⟩
  have hv1 : W1.heap[vb]? = some (.cells #[.int .u8 (c.toNat : Int), .int .i64 k] 45) := (hb1.block vb hvw (by simp)).trans hv
  have HCP1 : Hid (∀ ty dc, (Builtin.copy_ #[41, 41] ty #[.slice (some ⟨w.heap.size, i * 2, none⟩) (n + 1 - i) dc, .slice (some ⟨vb, 0, none⟩) 1 1]).run Tryz.prog W1 = .ok (goInt 1) (W1.setRow w.heap.size (gr1 cur.toList i n G X).toArray)) := fun ty dc => by
    have := run_copy_rowS (P := Tryz.prog) W1 41 41 ty 45 w.heap.size (i * 2) (n + 1 - i) dc ⟨vb, 0, none⟩ 1 1 (gr0 cur.toList i n G).toArray 45 X 2 1 Tryz.underlying41 isz_edge hH1 (by simp only [Nat.min_def]; split <;> omega) (by rw [hXl])
      (by rw [hX]; exact getE2 hv1) (by simp; omega) hX1
    rw [this]
    rfl
  obtain ⟨W2, hW2⟩ : ∃ W2, W2 = (W1.setRow w.heap.size (gr1 cur.toList i n G X).toArray).drew := ⟨_, rfl⟩
  have hH2 : W2.heap[w.heap.size]? = some (.cells (gr1 cur.toList i n G X).toArray 45 (0, 0)) := by rw [hW2]; exact setRow_heap _ _ _ _ _ _ hH1
  have hg2 : W2.heap[g]? = some (.cells cur 45 (0, 0)) := by
    rw [hW2]
    show (W1.setRow w.heap.size (gr1 cur.toList i n G X).toArray).heap[g]? = _
    rw [(setRow_grown hH1).block g (by have := hb1.size; omega) (by simp; omega), hb1.block g hgw (by simp)]
    exact hg
  have HCP2 : Hid (∀ ty dc sc, (Builtin.copy_ #[41, 41] ty #[.slice (some ⟨w.heap.size, (i + 1) * 2, none⟩) (n - i) dc, .slice (some ⟨g, i * 2, none⟩) (n - i) sc]).run Tryz.prog W2 = .ok (goInt ((n - i : Nat) : Int)) (W2.setRow w.heap.size (gr2 cur.toList i n G X).toArray)) := fun ty dc sc => by
    have := run_copy_rowS (P := Tryz.prog) W2 41 41 ty 45 w.heap.size ((i + 1) * 2) (n - i) dc ⟨g, i * 2, none⟩ (n - i) sc (gr1 cur.toList i n G X).toArray 45 ((cur.toList.take (n * 2)).drop (i * 2)) 2 (n - i) Tryz.underlying41 isz_edge hH2 (by simp only [Nat.min_def]; split <;> omega) hsl
      (fun j v hj => by
        rw [Addr.add_lit]
        rw [List.getElem?_drop, List.getElem?_take] at hj
        split at hj
        · rw [World.cell?, hg2]; simpa using hj
        · cases hj)
      (by simp; omega) (fun v hv => h1 v (List.mem_of_mem_drop hv))
    rw [this]
    rfl
  have HEnd : Hid ((W2.setRow w.heap.size (gr2 cur.toList i n G X).toArray).heap[w.heap.size]? = some (.cells (gr2 cur.toList i n G X).toArray 45 (0, 0)) ∧ w.grownBy (W2.setRow w.heap.size (gr2 cur.toList i n G X).toArray) none) := by
    refine ⟨setRow_heap W2 w.heap.size _ _ _ _ hH2, ?_⟩
    have a1 := setRow_grown (cur' := (gr1 cur.toList i n G X).toArray) hH1
    have a2 := setRow_grown (cur' := (gr2 cur.toList i n G X).toArray) hH2
    refine ⟨?_, ?_, ?_, ?_, fun k hk _ => ?_⟩
    · rw [a2.os, hW2]; show (W1.setRow w.heap.size (gr1 cur.toList i n G X).toArray).os = _; rw [a1.os, hb1.os]
    · rw [a2.tape, hW2]; show (W1.setRow w.heap.size (gr1 cur.toList i n G X).toArray).tape = _; rw [a1.tape, hb1.tape]
    · rw [a2.output, hW2]; show (W1.setRow w.heap.size (gr1 cur.toList i n G X).toArray).output = _; rw [a1.output, hb1.output]
    · have s1 := a1.size
      have s2 := a2.size
      have s3 := hb1.size
      have s4 : W2.heap.size = (W1.setRow w.heap.size (gr1 cur.toList i n G X).toArray).heap.size := by rw [hW2]; rfl
      omega
    · have s3 := hb1.size
      have s1 := a1.size
      have s4 : W2.heap.size = (W1.setRow w.heap.size (gr1 cur.toList i n G X).toArray).heap.size := by rw [hW2]; rfl
      rw [a2.block k (by omega) (by simp; omega), hW2]
      show (W1.setRow w.heap.size (gr1 cur.toList i n G X).toArray).heap[k]? = _
      rw [a1.block k (by omega) (by simp; omega), hb1.block k hk (by simp)]
  subst hX
  subst hW2
  subst hW1
  clear hg hv hcs hlc hsl hH1 hH2 hg2 hv1 hb1 hl0 hl1 h1 hold hG hXl hX1 hz0 hz1 hz2 hi0 i0
  have hz2 : ¬ ((i : Int) = (n : Int)) := by omega
  have hz3 : (cap : Int) < (n : Int) + 1 := by omega
  have hw1 : IntKind.i64.wrap ((i : Int) + 1) = (i : Int) + 1 := by rw [IntKind.wrap_i64]; omega
  have hin : i ≤ n := by omega
  have hbb1 : (0 : Int) ≤ (i : Int) + 1 := by omega
  have htn : ((i : Int) + 1).toNat = i + 1 := by omega
  have hGi : ¬ (G = i) := by omega
  have hGim : ¬ (G = i + 1) := by omega
  have hci : ¬ (cap = i) := by omega
  have hb3 : (i : Int) ≤ (n : Int) := by omega
  have HGM := hideH hG63
  unfold maxLen at hG63
  go_enter Tryz.func43, Tryz.ntmps43
  have hcp1 := HCP1.out
  go_wp2_with (at_builtin; refine Lib.wpList_append_run _ rfl _ _ _ _ rfl _ _ rfl rfl _ _ (HRZ.out _) ?_)
  clear hcp1
  have hcp2 := HCP2.out
  go_region_with fail
  clear hcp2
  go_wp2_with fail
  go_ret
  exact ⟨G, hGn, HGM.out, rfl, HEnd.out⟩
/-- with an edge more -/
abbrev put1 (es : List (UInt8 × Int)) (i : Nat) (c : UInt8) (k : Int) : List (UInt8 × Int) := es.take i ++ (c, k) :: es.drop i
theorem put1_cells (es : List (UInt8 × Int)) (i : Nat) (c : UInt8) (k : Int) : ecells (put1 es i c k) = (ecells es).take (i * 2) ++ [.int .u8 (c.toNat : Int), .int .i64 k] ++ (ecells es).drop (i * 2) := by
  unfold put1
  rw [ecells_append, ecells_cons, ecells_take, ecells_drop, List.append_assoc]; rfl
theorem put1_len (es : List (UInt8 × Int)) (i : Nat) (c : UInt8) (k : Int) (h : i ≤ es.length) : (put1 es i c k).length = es.length + 1 := by
  simp [put1]; omega
theorem Insert_own (base : Nat) (v : Value) (es : List (UInt8 × Int)) (i : Nat) (c : UInt8) (k : Int) (vb : Nat) (w : World) (hown : w.ownsRow base 45 2 v es.length (ecells es)) (hi : i ≤ es.length) (hlen : es.length ≤ 1000) (hb : base ≤ w.heap.size)
    (hv : w.heap[vb]? = some (.cells #[.int .u8 (c.toNat : Int), .int .i64 k] 45)) (hvb : v.ownBlock ≠ some vb) :
    Calls Tryz.prog 43 #[v, .int .i64 i, .slice (some ⟨vb, 0, none⟩) 1 1] w fun e w' => inP base v (es.length + 1) (ecells (put1 es i c k)) w e w' := by
  rcases Nat.lt_or_ge i es.length with hlt | hge
  · rcases hown.2 with ⟨_, h0⟩ | ⟨g, cap, cur, rfl, hbg, hg, hnc, hcm, hcs, htake⟩
    · omega
    have h1 : ∀ v ∈ cur.toList.take (es.length * 2), v.oneCell' = true := by rw [htake]; exact ecells_one es
    have hlc : cur.toList.length = cap * 2 := by rw [Array.length_toList, hcs]
    have hcm' := hcm
    unfold maxLen at hcm'
    by_cases hroom : es.length + 1 ≤ cap
    · refine (Insert_room g cap es.length i c k vb cur w hlt hroom hlen hcm' hg hcs h1 hv (fun e => hvb (by rw [e]; rfl))).mono ?_
      rintro e w' ⟨rfl, rfl⟩
      have hgd : w.drew.heap[g]? = some (.cells cur 45 (0, 0)) := hg
      have a1 := setRow_grown (cur' := (sh2 cur.toList i es.length [.int .u8 (c.toNat : Int), .int .i64 k]).toArray) hgd
      refine ⟨_, rfl, ⟨by rw [ecells_len, put1_len _ _ _ _ hi], .inr ⟨g, cap, _, rfl, hbg, setRow_heap _ _ _ _ _ _ hgd, hroom, hcm, ?_, ?_⟩⟩, ⟨a1.os, a1.tape, a1.output, a1.size, a1.block⟩, .inl rfl⟩
      · rw [List.size_toArray, sh2_len rfl hlt (by omega), hlc]
      · rw [List.toList_toArray, sh2_take rfl hlt (by omega), htake, put1_cells]
    · refine (Insert_grow g cap es.length i c k vb cur w hlt hnc (by omega) hlen hg hcs h1 hv).mono ?_
      rintro e w' ⟨G, hG1, hG2, rfl, hh, hgr⟩
      refine ⟨_, rfl, ⟨by rw [ecells_len, put1_len _ _ _ _ hi], .inr ⟨w.heap.size, G, _, rfl, hb, hh, hG1, hG2, ?_, ?_⟩⟩, ⟨hgr.os, hgr.tape, hgr.output, hgr.size, fun k hk _ => hgr.block k hk (by simp)⟩, .inr ⟨w.heap.size, rfl, Nat.le_refl _⟩⟩
      · rw [List.size_toArray, gr2_len rfl hlt (by omega) hG1]
      · rw [List.toList_toArray, gr2_take rfl hlt (by omega) hG1, htake, put1_cells]
  · obtain rfl : i = es.length := by omega
    exact Insert_end base v es c k vb w hown hlen hb hv
end Go.Proofs.YtfjjdicgekgbeaaGreatDoor.Tri

/- A trie that a call has made: how it lies, and how it grows. -/
namespace Go.Proofs.YtfjjdicgekgbeaaGreatDoor.Tri
open Go Go.RowKit Go.Lib Go.Maps
set_option linter.unusedVariables false

/-- two rows that share no block -/
def ap (u v : Value) : Prop := ∀ g, u.ownBlock = some g → v.ownBlock ≠ some g
theorem ap_symm {u v : Value} (h : ap u v) : ap v u := fun g hg hx => h g hx hg
theorem ap_nil (u : Value) : ap u (.slice none 0 0) := fun g _ hx => by simp [Value.ownBlock] at hx
theorem own_lt {w : World} {base n size : Nat} {e : TypeId} {v : Value} {xs : List Value} (h : w.ownsRow base e size v n xs) {g : Nat} (hg : v.ownBlock = some g) : base ≤ g ∧ g < w.heap.size := by
  rcases h.2 with ⟨rfl, _⟩ | ⟨g', cap, cur, rfl, hb, hh, _⟩
  · simp [Value.ownBlock] at hg
  · obtain rfl : g' = g := by simpa [Value.ownBlock] using hg
    exact ⟨hb, (Array.getElem?_eq_some_iff.1 hh).1⟩
theorem own_far {w w' : World} {base n size : Nat} {e : TypeId} {u v : Value} {xs : List Value} (h : w.ownsRow base e size u n xs) (hg : w.grownBy w' v.ownBlock) (ha : ap u v) : w'.ownsRow base e size u n xs :=
  h.kept hg (by
    cases hu : u.ownBlock with
    | none => exact .inl rfl
    | some g => exact .inr (fun e => ha g hu e.symm))
theorem own_on {w w' : World} {base n size : Nat} {e : TypeId} {v : Value} {xs : List Value} (h : w.ownsRow base e size v n xs) (hb : Below w.heap.size w w') : w'.ownsRow base e size v n xs :=
  ⟨h.1, h.2.imp id fun ⟨g, cap, cur, h1, h2, h3, h4⟩ => ⟨g, cap, cur, h1, h2, (hb.block g (Array.getElem?_eq_some_iff.1 h3).1).trans h3, h4⟩⟩
/-- a node's cells -/
def ncell (vs : Nat → Value) (t : List Nd) (j : Nat) : Value := if j % 2 = 0 then vs (j / 2) else .int .i64 (nod t (j / 2)).wd
def ncells (vs : Nat → Value) (t : List Nd) (n : Nat) : List Value := (List.range (n * 2)).map (ncell vs t)
theorem ncells_len (vs : Nat → Value) (t : List Nd) (n : Nat) : (ncells vs t n).length = n * 2 := by simp [ncells]
theorem ncells_at (vs : Nat → Value) (t : List Nd) {n j : Nat} (h : j < n * 2) : (ncells vs t n)[j]? = some (ncell vs t j) := by simp [ncells, h]
theorem ncells_succ (vs : Nat → Value) (t : List Nd) (n : Nat) : ncells vs t (n + 1) = ncells vs t n ++ [vs n, .int .i64 (nod t n).wd] := by
  unfold ncells
  rw [show (n + 1) * 2 = n * 2 + 1 + 1 by omega, List.range_succ, List.range_succ, List.map_append, List.map_append, List.append_assoc]
  have e1 : ncell vs t (n * 2) = vs n := by unfold ncell; rw [if_pos (by omega), show n * 2 / 2 = n by omega]
  have e2 : ncell vs t (n * 2 + 1) = .int .i64 (nod t n).wd := by unfold ncell; rw [if_neg (by omega), show (n * 2 + 1) / 2 = n by omega]
  simp [e1, e2]
theorem ncells_congr {vs vs' : Nat → Value} {t t' : List Nd} {n : Nat} (h : ∀ j, j < n → vs j = vs' j) (k : ∀ j, j < n → (nod t j).wd = (nod t' j).wd) : ncells vs t n = ncells vs' t' n := by
  unfold ncells
  apply List.map_congr_left
  intro j hj
  have hj := List.mem_range.1 hj
  unfold ncell
  split
  · exact h _ (by omega)
  · rw [k _ (by omega)]
theorem ncells_set0 (vs : Nat → Value) (t t' : List Nd) {n a : Nat} (v : Value) (ha : a < n) (k : ∀ j, j < n → (nod t j).wd = (nod t' j).wd) : (ncells vs t n).set (a * 2) v = ncells (fun j => if j = a then v else vs j) t' n := by
  apply List.ext_getElem?
  intro j
  by_cases hj : j < n * 2
  · rw [ncells_at _ _ hj, List.getElem?_set]
    rw [ncells_len]
    by_cases e : a * 2 = j
    · subst e
      rw [if_pos rfl, if_pos hj]
      unfold ncell
      rw [if_pos (by omega), show a * 2 / 2 = a by omega]
      simp
    · rw [if_neg e, ncells_at _ _ hj]
      unfold ncell
      by_cases h2 : j % 2 = 0
      · rw [if_pos h2, if_pos h2]
        show _ = some (if j / 2 = a then v else vs (j / 2))
        rw [if_neg (by omega)]
      · rw [if_neg h2, if_neg h2, k _ (by omega)]
  · rw [List.getElem?_eq_none (by rw [List.length_set, ncells_len]; omega), List.getElem?_eq_none (by rw [ncells_len]; omega)]
theorem ncells_set1 (vs : Nat → Value) (t t' : List Nd) {n a : Nat} (x : Int) (ha : a < n) (k : ∀ j, j < n → (nod t' j).wd = if j = a then x else (nod t j).wd) : (ncells vs t n).set (a * 2 + 1) (.int .i64 x) = ncells vs t' n := by
  apply List.ext_getElem?
  intro j
  by_cases hj : j < n * 2
  · rw [ncells_at _ _ hj, List.getElem?_set]
    rw [ncells_len]
    by_cases e : a * 2 + 1 = j
    · subst e
      rw [if_pos rfl, if_pos hj]
      unfold ncell
      rw [if_neg (by omega), show (a * 2 + 1) / 2 = a by omega, k a ha, if_pos rfl]
    · rw [if_neg e, ncells_at _ _ hj]
      unfold ncell
      by_cases h2 : j % 2 = 0
      · rw [if_pos h2, if_pos h2]
      · rw [if_neg h2, if_neg h2, k _ (by omega), if_neg (by omega)]
  · rw [List.getElem?_eq_none (by rw [List.length_set, ncells_len]; omega), List.getElem?_eq_none (by rw [ncells_len]; omega)]
/-- a trie of the call's own: the nodes' row v, each node's edges vs -/
structure OwT (w : World) (base : Nat) (v : Value) (vs : Nat → Value) (t : List Nd) : Prop where
  row : w.ownsRow base 43 2 v t.length (ncells vs t t.length)
  es : ∀ j, j < t.length → w.ownsRow base 45 2 (vs j) (nod t j).es.length (ecells (nod t j).es)
  av : ∀ j, j < t.length → ap (vs j) v
  aa : ∀ i j, i < t.length → j < t.length → i ≠ j → ap (vs i) (vs j)
theorem OwT.on {w w' : World} {base : Nat} {v : Value} {vs : Nat → Value} {t : List Nd} (h : OwT w base v vs t) (hb : Below w.heap.size w w') : OwT w' base v vs t :=
  ⟨own_on h.row hb, fun j hj => own_on (h.es j hj) hb, h.av, h.aa⟩
/-- what of it a walk reads -/
theorem own_edl {w : World} {base : Nat} {v : Value} {es : List (UInt8 × Int)} (h : w.ownsRow base 45 2 v es.length (ecells es)) : ∃ ea ec, v = .slice ea es.length ec ∧ es.length ≤ ec ∧ EdL w ea es := by
  rcases h.2 with ⟨rfl, h0⟩ | ⟨g, cap, cur, rfl, hb, hg, hnc, hcm, hcs, htake⟩
  · exact ⟨none, 0, by rw [h0], by omega, .inl h0⟩
  · refine ⟨_, cap, rfl, hnc, .inr ⟨g, 0, rfl, fun j hj => ?_⟩⟩
    have hd := ecells_drop es j
    have hc : ∀ o, o < es.length * 2 → w.cell? ⟨g, o, none⟩ = (ecells es)[o]? := fun o ho => h.cellAt o ho
    have hx : es.drop j = es[j] :: es.drop (j + 1) := List.drop_eq_getElem_cons hj
    rw [hx, ecells_cons, eC_at hj] at hd
    have g0 : (ecells es)[j * 2]? = some (.int .u8 ((eC es j).toNat : Int)) := by
      have := congrArg (fun l => l[0]?) hd
      simpa [List.getElem?_drop] using this
    have g1 : (ecells es)[j * 2 + 1]? = some (.int .i64 (eT es j)) := by
      have := congrArg (fun l => l[1]?) hd
      simpa [List.getElem?_drop] using this
    rw [Nat.zero_add, hc _ (by omega), hc _ (by omega)]
    exact ⟨g0, g1⟩
theorem OwT.slice {w : World} {base : Nat} {v : Value} {vs : Nat → Value} {t : List Nd} (h : OwT w base v vs t) (h0 : 0 < t.length) : ∃ g cap, v = .slice (some ⟨g, 0, none⟩) t.length cap ∧ base ≤ g ∧ g < w.heap.size ∧ t.length ≤ cap ∧ (∀ j, j < t.length → w.cell? ⟨g, j * 2, none⟩ = some (vs j) ∧ w.cell? ⟨g, j * 2 + 1, none⟩ = some (.int .i64 (nod t j).wd)) ∧ ∀ o, w.frozen? ⟨g, o, none⟩ = false := by
  rcases h.row.2 with ⟨_, h1⟩ | ⟨g, cap, cur, rfl, hb, hg, hnc, hcm, hcs, htake⟩
  · omega
  · refine ⟨g, cap, rfl, hb, (Array.getElem?_eq_some_iff.1 hg).1, hnc, fun j hj => ?_, fun o => h.row.frozenAt o⟩
    rw [h.row.cellAt _ (by omega), h.row.cellAt _ (by omega), ncells_at _ _ (by omega), ncells_at _ _ (by omega)]
    unfold ncell
    rw [if_pos (by omega), if_neg (by omega), show j * 2 / 2 = j by omega, show (j * 2 + 1) / 2 = j by omega]
    exact ⟨rfl, rfl⟩
theorem OwT.trl {w : World} {base : Nat} {v : Value} {vs : Nat → Value} {t : List Nd} (h : OwT w base v vs t) (h0 : 0 < t.length) : ∃ a cap, v = .slice a t.length cap ∧ t.length ≤ cap ∧ TrL w a t := by
  obtain ⟨g, cap, hv, _, _, hc, hcells, _⟩ := h.slice h0
  refine ⟨_, cap, hv, hc, .inr ⟨g, 0, rfl, fun j hj => ?_⟩⟩
  obtain ⟨ea, ec, e1, _, e2⟩ := own_edl (h.es j hj)
  have := hcells j hj
  rw [e1] at this
  exact ⟨ea, ec, by rw [Nat.zero_add]; exact this.1, by rw [Nat.zero_add]; exact this.2, e2⟩
/-- an edge more, stored -/
theorem OwT.edge {w w1 : World} {base g cap : Nat} {vs : Nat → Value} {t : List Nd} {a : Nat} {u : Value} {es' : List (UInt8 × Int)} (h : OwT w base (.slice (some ⟨g, 0, none⟩) t.length cap) vs t) (ha : a < t.length) (hg : w.grownBy w1 (vs a).ownBlock)
    (hu : w1.ownsRow base 45 2 u es'.length (ecells es')) (hx : u.ownBlock = (vs a).ownBlock ∨ ∃ g, u.ownBlock = some g ∧ w.heap.size ≤ g) :
    OwT (w1.setCell ⟨g, a * 2, none⟩ u) base (.slice (some ⟨g, 0, none⟩) t.length cap) (fun j => if j = a then u else vs j) (t.set a ⟨es', (nod t a).wd⟩) := by
  have hrow := own_far h.row hg (ap_symm (h.av a ha))
  obtain ⟨s1, s2⟩ := hrow.stored (a * 2) u
  have hlen : (t.set a ⟨es', (nod t a).wd⟩).length = t.length := by simp
  have hwd : ∀ j, j < t.length → (nod t j).wd = (nod (t.set a ⟨es', (nod t a).wd⟩) j).wd := fun j hj => by
    by_cases e : j = a
    · subst e; rw [nod_set_same _ ha]
    · rw [nod_set_other _ e]
  have hau : ap u (.slice (some ⟨g, 0, none⟩) t.length cap) := fun k hk hx2 => by
    rcases hx with h1 | ⟨g2, h1, h2⟩
    · exact h.av a ha k (by rw [← h1]; exact hk) hx2
    · have := (own_lt h.row hx2).2
      rw [h1] at hk
      cases hk
      omega
  have hav : ∀ j, j < t.length → j ≠ a → ap u (vs j) := fun j hj hne k hk hx2 => by
    rcases hx with h1 | ⟨g2, h1, h2⟩
    · exact h.aa a j ha hj (Ne.symm hne) k (by rw [← h1]; exact hk) hx2
    · have := (own_lt (h.es j hj) hx2).2
      rw [h1] at hk
      cases hk
      omega
  refine ⟨?_, fun j hj => ?_, fun j hj => ?_, fun i j hi hj hne => ?_⟩
  · rw [hlen, ← ncells_set0 vs t _ u ha hwd]
    exact s1
  · rw [hlen] at hj
    by_cases e : j = a
    · subst e
      rw [nod_set_same _ ha]
      simp only [if_true]
      exact own_far (v := .slice (some ⟨g, 0, none⟩) t.length cap) hu s2 hau
    · rw [nod_set_other _ e]
      simp only [if_neg e]
      exact own_far (v := .slice (some ⟨g, 0, none⟩) t.length cap) (own_far (h.es j hj) hg (h.aa j a hj ha e)) s2 (h.av j hj)
  · rw [hlen] at hj
    by_cases e : j = a
    · simp only [if_pos e]; exact hau
    · simp only [if_neg e]; exact h.av j hj
  · rw [hlen] at hi hj
    by_cases e : i = a
    · simp only [if_pos e]
      rw [if_neg (fun h => hne (by rw [e, h]))]
      exact hav j hj (fun h => hne (by rw [e, h]))
    · simp only [if_neg e]
      by_cases e2 : j = a
      · simp only [if_pos e2]; exact ap_symm (hav i hi e)
      · simp only [if_neg e2]; exact h.aa i j hi hj hne
/-- a node more -/
theorem OwT.node {w w1 : World} {base : Nat} {v : Value} {vs : Nat → Value} {t : List Nd} {g cap H : Nat} (h : OwT w base v vs t) (hg : w.grownBy w1 v.ownBlock)
    (hu : w1.ownsRow base 43 2 (.slice (some ⟨g, 0, none⟩) (t.length + 1) cap) (t.length + 1) (ncells vs t t.length ++ [.slice none 0 0, .int .i64 (-1)])) (hx : v.ownBlock = some g ∨ g = H) (hH : w.heap.size ≤ H) :
    OwT w1 base (.slice (some ⟨g, 0, none⟩) (t.length + 1) cap) (fun j => if j = t.length then .slice none 0 0 else vs j) (t ++ [⟨[], -1⟩]) := by
  have hn : ∀ j, j < t.length → nod (t ++ [⟨[], -1⟩]) j = nod t j := fun j hj => by
    have e : (t ++ [⟨[], -1⟩])[j]?.getD ⟨[], -1⟩ = t[j]?.getD ⟨[], -1⟩ := by rw [List.getElem?_append_left hj]
    exact e
  have hl : nod (t ++ [⟨[], -1⟩]) t.length = ⟨[], -1⟩ := by
    have e : (t ++ [⟨[], -1⟩])[t.length]?.getD ⟨[], -1⟩ = (⟨[], -1⟩ : Nd) := by simp
    exact e
  have hlen : (t ++ [⟨[], -1⟩] : List Nd).length = t.length + 1 := by simp
  have hap : ∀ j, j < t.length → ap (vs j) (.slice (some ⟨g, 0, none⟩) (t.length + 1) cap) := fun j hj k hk hx2 => by
    obtain rfl : g = k := by simpa [Value.ownBlock] using hx2
    rcases hx with h1 | h1
    · exact h.av j hj g hk h1
    · have := (own_lt (h.es j hj) hk).2
      omega
  refine ⟨?_, fun j hj => ?_, fun j hj => ?_, fun i j hi hj hne => ?_⟩
  · rw [hlen, ncells_succ, hl]
    simp only [if_true]
    rw [ncells_congr (vs' := vs) (t' := t) (fun j hj => by rw [if_neg (by omega)]) (fun j hj => by rw [hn j hj])]
    exact hu
  · rw [hlen] at hj
    by_cases e : j = t.length
    · subst e
      rw [hl]
      simp only [if_true]
      exact ⟨rfl, .inl ⟨rfl, rfl⟩⟩
    · simp only [if_neg e]
      rw [hn j (by omega)]
      exact own_far (h.es j (by omega)) hg (h.av j (by omega))
  · rw [hlen] at hj
    by_cases e : j = t.length
    · simp only [if_pos e]; exact ap_symm (ap_nil _)
    · simp only [if_neg e]; exact hap j (by omega)
  · rw [hlen] at hi hj
    by_cases e : i = t.length
    · simp only [if_pos e]; exact ap_symm (ap_nil _)
    · simp only [if_neg e]
      by_cases e2 : j = t.length
      · simp only [if_pos e2]; exact ap_nil _
      · simp only [if_neg e2]; exact h.aa i j (by omega) (by omega) hne
/-- a word's number, stored -/
theorem OwT.word {w : World} {base g cap : Nat} {vs : Nat → Value} {t : List Nd} {a : Nat} (x : Int) (h : OwT w base (.slice (some ⟨g, 0, none⟩) t.length cap) vs t) (ha : a < t.length) :
    OwT (w.setCell ⟨g, a * 2 + 1, none⟩ (.int .i64 x)) base (.slice (some ⟨g, 0, none⟩) t.length cap) vs (t.set a ⟨(nod t a).es, x⟩) := by
  obtain ⟨s1, s2⟩ := h.row.stored (a * 2 + 1) (.int .i64 x)
  have hlen : (t.set a ⟨(nod t a).es, x⟩).length = t.length := by simp
  have hes : ∀ j, (nod (t.set a ⟨(nod t a).es, x⟩) j).es = (nod t j).es := fun j => by
    by_cases e : j = a
    · subst e; rw [nod_set_same _ ha]
    · rw [nod_set_other _ e]
  refine ⟨?_, fun j hj => ?_, fun j hj => ?_, fun i j hi hj hne => ?_⟩
  · rw [hlen, ← ncells_set1 vs t _ x ha (fun j hj => by
      by_cases e : j = a
      · subst e; rw [nod_set_same _ ha, if_pos rfl]
      · rw [nod_set_other _ e, if_neg e])]
    exact s1
  · rw [hlen] at hj
    rw [hes]
    exact own_far (v := .slice (some ⟨g, 0, none⟩) t.length cap) (h.es j hj) s2 (h.av j hj)
  · rw [hlen] at hj
    exact h.av j hj
  · rw [hlen] at hi hj
    exact h.aa i j hi hj hne
end Go.Proofs.YtfjjdicgekgbeaaGreatDoor.Tri

/- The contract of trie.add. -/
namespace Go.Proofs.YtfjjdicgekgbeaaGreatDoor.Tri
open Go Go.RowKit Go.Maps
set_option linter.unusedVariables false

theorem lay_far : ∀ (m : Nat) (s : List UInt8) (t : List Nd) (a b : Nat), m ≤ s.length → go t a (s.take m) = some b → lay t a s = lay t b (s.drop m)
  | 0, s, t, a, b, _, h => by simp only [List.take_zero, go, Option.some.injEq] at h; subst h; rfl
  | m + 1, [], t, a, b, h, _ => by simp at h
  | m + 1, c :: s, t, a, b, hm, h => by
    simp only [List.take_succ_cons, go] at h
    simp only [lay, List.drop_succ_cons]
    cases hc : edg (nod t a).es c with
    | none => rw [hc] at h; cases h
    | some k =>
      rw [hc] at h
      exact lay_far m s t k.toNat b (by simpa using hm) h
theorem ok_okT {t : List Nd} {pre : List (List UInt8)} (h : Ok t pre) (hw : ∀ i, i < t.length → -1 ≤ (nod t i).wd) : okT t := by
  have h0 : 0 < t.length := by
    rw [h.len]
    exact (List.getElem?_eq_some_iff.1 h.zero).1
  refine ⟨h0, fun i hi => ?_⟩
  unfold okN
  rw [Bool.and_eq_true, Bool.and_eq_true]
  refine ⟨decide_eq_true (hw i hi), risB_rises.2 (h.so i), (leaB_iff _ _ _).2 fun j hj => ?_⟩
  have hm : (eC (nod t i).es j, eT (nod t i).es j) ∈ (nod t i).es := by rw [← eC_at hj]; exact List.getElem_mem hj
  have h1 := h.up i _ hm
  have hil : i < pre.length := by rw [← h.len]; exact hi
  have hp : pre[i]? = some pre[i] := List.getElem?_eq_getElem hil
  obtain ⟨h2, h3⟩ := (h.ed i _ hp _ _).1 hm
  have h4 := (List.getElem?_eq_some_iff.1 h3).1
  rw [← h.len] at h4
  simp only at h1 h2 h4
  omega
theorem ins_put (es : List (UInt8 × Int)) (c : UInt8) (k : Int) : ins es c k = put1 es (cnt es c) c k := rfl
theorem cnt_le (es : List (UInt8 × Int)) (c : UInt8) : cnt es c ≤ es.length := List.countP_le_length
theorem grow_put (t : List Nd) (a : Nat) (c : UInt8) : grow t a c = t.set a ⟨put1 (nod t a).es (cnt (nod t a).es c) c t.length, (nod t a).wd⟩ ++ [⟨[], -1⟩] := rfl
theorem info_node : (Tryz.prog.info? 43).map (fun i => (i.zero, i.size, i.bytes)) = some (some (.agg #[.slice none 0 0, .int .i64 0]), 2, 32) := by kernel_rfl
theorem below_own {base : Nat} {w W w1 : World} {n size : Nat} {e : TypeId} {v : Value} {xs : List Value} (hB : Below base w W) (hb : base ≤ w.heap.size) (h : W.ownsRow base e size v n xs) (hg : W.grownBy w1 v.ownBlock) : Below base w w1 :=
  hB.grown hg (by have := hB.size; omega) (fun k hk => (own_lt h hk).1)
theorem grown_cell {w w' : World} {row : Option Nat} (hg : w.grownBy w' row) {b o : Nat} (hb : b < w.heap.size) (hne : some b ≠ row) : w'.cell? ⟨b, o, none⟩ = w.cell? ⟨b, o, none⟩ ∧ w'.frozen? ⟨b, o, none⟩ = w.frozen? ⟨b, o, none⟩ :=
  ⟨World.cell?_of_block (hg.block b hb hne), World.frozen?_of_block (hg.block b hb hne)⟩
/-- where trie.add stands in its loop -/
def aI (base : Nat) (w : World) (t : List Nd) (s : ByteArray) (T : List Nd) (v : Value) (n a : Nat) (W : World) : Prop :=
  ∃ vs pre p, OwT W base v vs T ∧ Ok T pre ∧ pre[a]? = some p ∧ lay t 0 s.data.toList = lay T a (s.data.toList.drop n) ∧ (∀ h : n < s.size, edg (nod T a).es (s[n]'h) = none) ∧ T.length ≤ t.length + n ∧ Below base w W
/-- what trie.add leaves -/
def adP (base : Nat) (w : World) (t : List Nd) (e : Ending) (w' : World) : Prop := ∃ v' vs', e = .returned v' ∧ OwT w' base v' vs' t ∧ Below base w w'
theorem drop_cons (s : ByteArray) (n : Nat) (h : n < s.size) : s.data.toList.drop n = s[n] :: s.data.toList.drop (n + 1) := by
  rw [List.drop_eq_getElem_cons (by simpa using h)]; rfl
theorem grow_len (t : List Nd) (a : Nat) (c : UInt8) : (grow t a c).length = t.length + 1 := by simp [grow]
theorem nod_grow_last {t : List Nd} {a : Nat} (c : UInt8) (ha : a < t.length) : nod (grow t a c) t.length = ⟨[], -1⟩ := by
  rw [nod_grow_other c ha (by omega)]
  rw [nod, List.getElem?_eq_none (Nat.le_refl _)]; rfl
theorem aI_next {base : Nat} {w : World} {t : List Nd} {s : ByteArray} {T : List Nd} {n a : Nat} {W : World} {v : Value} {vs : Nat → Value} {pre : List (List UInt8)} {p : List UInt8} (hlt : n < s.size) (hO : OwT W base v vs (grow T a s[n])) (hk : Ok T pre) (hp : pre[a]? = some p)
    (hlay : lay t 0 s.data.toList = lay T a (s.data.toList.drop n)) (hed : edg (nod T a).es s[n] = none) (hT : T.length ≤ t.length + n) (hb : Below base w W) : aI base w t s (grow T a s[n]) v (n + 1) T.length W := by
  have hal : a < T.length := by rw [hk.len]; exact (List.getElem?_eq_some_iff.1 hp).1
  refine ⟨vs, pre ++ [p ++ [s[n]]], p ++ [s[n]], hO, ok_grow hk hp hed, ?_, ?_, fun h => ?_, by rw [grow_len]; omega, hb⟩
  · rw [List.getElem?_append_right (by rw [hk.len]; exact Nat.le_refl _), hk.len]; simp
  · rw [hlay, drop_cons s n hlt, lay, hed]
  · rw [nod_grow_last _ hal]; rfl
set_option maxRecDepth 100000 in
set_option maxHeartbeats 8000000 in
theorem add_c (base : Nat) (v : Value) (vs : Nat → Value) (t : List Nd) (pre : List (List UInt8)) (s : ByteArray) (num : Int) (w : World) (hO : OwT w base v vs t) (hok : Ok t pre) (hwd : ∀ i, i < t.length → -1 ≤ (nod t i).wd) (hlen : t.length ≤ 600) (hs : s.size ≤ 12) (hb : base ≤ w.heap.size) :
    Calls Tryz.prog 21 #[v, .string s, .int .i64 num] w fun e w' => adP base w (addw t s.data.toList num) e w' := by
  have hokT := ok_okT hok hwd
  have hfit : fitT t := ⟨by unfold maxLen; omega, fun j hj => by have := rises_len (hok.so j); unfold maxLen; omega⟩
  obtain ⟨g0, cap0, rfl, -, -, hc0, -, -⟩ := hO.slice hokT.1
  obtain ⟨a1, cap1, he1, -, htr⟩ := hO.trl hokT.1
  simp only [Value.slice.injEq, true_and] at he1
  obtain ⟨rfl, rfl⟩ := he1
  obtain ⟨i0, hi, hz0, hz1, hz2⟩ := info_parts info_node
  have HFa := hideH (farthest_c (some ⟨g0, 0, none⟩) cap0 t s w (by unfold maxLen; omega) hfit hokT htr)
  have HO := hideH hO
  have HK := hideH hok
  have HB := hideH hb
  have HT := hideH hokT
  obtain ⟨tl, htl⟩ : ∃ tl, tl = t.length := ⟨_, rfl⟩
  rw [← htl] at hlen
  have HTL := hideH htl
  clear hO hok hwd hfit htr hb hokT htl hc0
  go_enter Tryz.func21, Tryz.ntmps21
  go_wp2_with fail
  refine HFa.out.mono ?_
  rintro e w1 ⟨m, rfl, hfar, hw1⟩
  have HI : Hid (aI base w t s t (.slice (some ⟨g0, 0, none⟩) t.length cap0) m (atN t s m) w1) := by
    obtain ⟨h1, h2, h3⟩ := hfar
    have hat := far_at (t := t) (s := s) (m := m) ⟨h1, h2, h3⟩
    have hlt := go_lt HT.out _ 0 _ HT.out.1 hat
    refine ⟨vs, pre, pre[atN t s m]'(by rw [← HK.out.len]; exact hlt), HO.out.on hw1, HK.out, List.getElem?_eq_getElem _, lay_far m _ t 0 _ (by rw [sz_len]; exact h1) hat, fun h => ?_, by omega, hw1.mono HB.out⟩
    rcases h3 with h3 | h3
    · omega
    · rw [go_next h hat] at h3
      cases he : edg (nod t (atN t s m)).es s[m] with
      | none => rfl
      | some j => rw [he] at h3; cases h3
  have hm := hfar.1
  clear hfar hw1 HFa
  generalize atN t s m = at0 at HI
  go_wp2_with fail
  go_loopw [0, 7, 8] (fun x0 x7 x8 W => ∃ (T : List Nd) (n a g cap : Nat), n ≤ s.size ∧ x0 = .slice (some ⟨g, 0, none⟩) T.length cap ∧ x7 = .int .i64 n ∧ x8 = .int .i64 a ∧ Hid (aI base w t s T (.slice (some ⟨g, 0, none⟩) T.length cap) n a W)) (fun _ x7 _ _ => s.size - (intOf x7).toNat)
  case atStart => exact ⟨t, m, at0, g0, cap0, hm, rfl, rfl, rfl, HI⟩
  case round =>
    obtain ⟨T, n, a, g, cap, hn, rfl, rfl, rfl, HA⟩ := hrel
    by_cases hlt : n < s.size
    · obtain ⟨vs, pre, p, hO, hk, hp, hlay, hed, hTl, hbel⟩ := HA.out
      have hal : a < T.length := by rw [hk.len]; exact (List.getElem?_eq_some_iff.1 hp).1
      obtain ⟨ea, ec, he1, hec, hedl⟩ := own_edl (hO.es a hal)
      obtain ⟨g', cap', he2, hbg, hgw, -, hcells, hfz⟩ := hO.slice (by omega)
      simp only [Value.slice.injEq, Option.some.injEq, Addr.mk.injEq, and_true, true_and] at he2
      obtain ⟨rfl, rfl⟩ := he2
      have d0 := (hcells a hal).1
      rw [he1] at d0
      have fz := hfz (a * 2)
      have HC := hideH (cnt_le (nod T a).es s[n])
      have HR := hideH (hk.so a)
      have HE := hideH (hed hlt)
      have HL := hideH hedl
      have hrl := rises_len (hk.so a)
      have HP := hideH (fun v (hv : Below wr.heap.size wr v) => place_c ea ec (nod T a).es s[n] v (HL.out.on hv) HR.out)
      unfold plP at HP
      rw [HE.out] at HP
      simp only [Option.isSome_none] at HP
      have hTl2 : T.length ≤ tl + n := by have := HTL.out; omega
      have HO2 := hideH hO
      have HB2 := hideH hbel
      have HK2 := hideH hk
      have HPp := hideH hp
      have HLy := hideH hlay
      have HE1 := hideH he1
      clear hO hk hp hlay hed hTl hbel he1 hec hedl hcells hfz HA
      have hai : (a : Int) < (T.length : Int) := by omega
      have hni : (n : Int) < (s.size : Int) := by omega
      obtain ⟨C, hC⟩ : ∃ C, C = cnt (nod T a).es s[n] := ⟨_, rfl⟩
      rw [← hC] at HP HC
      have HCC := hideH hC
      clear hC
      go_wp2_with fail
      go_region_held3 (fun v => v.cell? ⟨g, a * 2, none⟩ = some (.slice ea (nod T a).es.length ec)) (first | (exact d0) | (exact cell_on (w := wr.drew) d0 hw2)) ((go_at_call 42; refine (HP.out _ (Below.refl _ wr).drew).mono ?_; rintro e w2 ⟨rfl, hw2⟩))
      have H2 := hideH (show Below wr.heap.size wr w2 from bthen (a := wr.drew) (Below.refl _ wr).drew hw2)
      have d1 := cell_on d0 H2.out
      have fz1 : w2.frozen? ⟨g, a * 2, none⟩ = false := by rw [H2.out.frozen (p := ⟨g, a * 2, none⟩) hgw]; exact fz
      have O2 := hideH (HO2.out.on H2.out)
      clear hw2 d0 fz
      have HBa : Hid (Below w2.heap.size w2 (w2.drew.alloc (.cells #[.int .u8 (s[n].toNat : Int), .int .i64 T.length] 45))) := (Below.refl _ w2).drew.alloc (Nat.le_refl _) _
      have HNe : Hid (some g ≠ (Value.slice ea (nod T a).es.length ec).ownBlock) := fun h => by
        have := O2.out.av a hal
        rw [HE1.out] at this
        exact this g h.symm rfl
      have hgw2 : g < w2.heap.size := by have := H2.out.size; omega
      have HIn : Hid (Calls Tryz.prog 43 #[.slice ea (nod T a).es.length ec, .int .i64 C, .slice (some ⟨w2.heap.size, 0, none⟩) 1 1] (w2.drew.alloc (.cells #[.int .u8 (s[n].toNat : Int), .int .i64 T.length] 45)) fun e w' => ∃ gu qu, e = .returned (.slice (some ⟨gu, 0, none⟩) ((nod T a).es.length + 1) qu) ∧ w'.ownsRow base 45 2 (.slice (some ⟨gu, 0, none⟩) ((nod T a).es.length + 1) qu) ((nod T a).es.length + 1) (ecells (put1 (nod T a).es C s[n] T.length)) ∧ (w2.drew.alloc (.cells #[.int .u8 (s[n].toNat : Int), .int .i64 T.length] 45)).grownBy w' (Value.slice ea (nod T a).es.length ec).ownBlock ∧ ((Value.slice (some ⟨gu, 0, none⟩) ((nod T a).es.length + 1) qu).ownBlock = (Value.slice ea (nod T a).es.length ec).ownBlock ∨ ∃ g, (Value.slice (some ⟨gu, 0, none⟩) ((nod T a).es.length + 1) qu).ownBlock = some g ∧ (w2.drew.alloc (.cells #[.int .u8 (s[n].toNat : Int), .int .i64 T.length] 45)).heap.size ≤ g)) := by
        have ho := O2.out.es a hal
        rw [HE1.out] at ho
        refine (Insert_own base _ (nod T a).es C s[n] T.length w2.heap.size _ (own_on ho HBa.out) HC.out (by omega) ?_ (heap_alloc_new w2.drew _) (fun h => ?_)).mono ?_
        · have h1 := HBa.out.size
          have h2 := H2.out.size
          have h3 := HB2.out.size
          have h4 := HB.out
          omega
        · have := (own_lt ho h).2
          omega
        · rintro e w' ⟨u, rfl, hu, hgr, hx⟩
          obtain ⟨gu, qu, rfl, -, -⟩ := hu.form (by omega)
          refine ⟨gu, qu, rfl, hu, hgr, ?_⟩
          rcases hx with h | ⟨g2, h, h2⟩
          · exact .inl h
          · exact .inr ⟨g2, h, h2⟩
      go_wp2_with fail
      have da := cell_on d1 HBa.out
      have dfa := (HBa.out.frozen (p := ⟨g, a * 2, none⟩) hgw2).trans fz1
      go_region_with ((go_at_call 43; refine HIn.out.mono ?_; rintro e w3 ⟨gu, qu, rfl, hu, hgr, hx⟩; have d3 := (grown_cell hgr (by have := HBa.out.size; omega) HNe.out).1.trans da; have f3 := (grown_cell hgr (by have := HBa.out.size; omega) HNe.out).2.trans dfa))
      all_goals
        have O3 : Hid (OwT (w3.setCell ⟨g, a * 2, none⟩ (.slice (some ⟨gu, 0, none⟩) ((nod T a).es.length + 1) qu)) base (.slice (some ⟨g, 0, none⟩) T.length cap) (fun j => if j = a then (.slice (some ⟨gu, 0, none⟩) ((nod T a).es.length + 1) qu) else vs j) (T.set a ⟨put1 (nod T a).es C s[n] T.length, (nod T a).wd⟩)) := by
          refine OwT.edge (O2.out.on HBa.out) hal (by rw [HE1.out]; exact hgr) ?_ (by rw [HE1.out]; exact hx)
          rw [put1_len _ _ _ _ HC.out]
          exact hu
        have B3 : Hid (Below base w (w3.setCell ⟨g, a * 2, none⟩ (.slice (some ⟨gu, 0, none⟩) ((nod T a).es.length + 1) qu))) := by
          have h1 : Below base w (w2.drew.alloc (.cells #[.int .u8 (s[n].toNat : Int), .int .i64 T.length] 45)) := (HB2.out.trans (H2.out.mono (by have := HB2.out.size; have := HB.out; omega))).trans (HBa.out.mono (by have := HB2.out.size; have := H2.out.size; have := HB.out; omega))
          have ho := (O2.out.on HBa.out).es a hal
          rw [HE1.out] at ho
          exact (below_own h1 HB.out ho hgr).setCell (p := ⟨g, a * 2, none⟩) hbg _
        have S3 : w2.heap.size < w3.heap.size := by
          have := hgr.size
          simp at this
          omega
        clear hu hgr hx d3 f3 da dfa d1 fz1
        obtain ⟨W3, hW3⟩ : ∃ W3, W3 = w3.setCell ⟨g, a * 2, none⟩ (.slice (some ⟨gu, 0, none⟩) ((nod T a).es.length + 1) qu) := ⟨_, rfl⟩
        rw [← hW3] at O3 B3
        simp only [← hW3]
        clear hW3
        generalize (fun j => if j = a then (Value.slice (some ⟨gu, 0, none⟩) ((nod T a).es.length + 1) qu) else vs j) = VS at O3
        have HBn : Hid (Below W3.heap.size W3 (W3.alloc (.cells #[.slice none 0 0, .int .i64 (-1)] 43))) := (Below.refl _ W3).alloc (Nat.le_refl _) _
        have HNw : Hid (∀ j u, [Value.slice none 0 0, Value.int .i64 (-1)][j]? = some u → (W3.alloc (.cells #[.slice none 0 0, .int .i64 (-1)] 43)).cell? ((⟨W3.heap.size, 0, none⟩ : Addr).add j) = some u) := fun j u hj => by
          match j, hj with
          | 0, hj => simp at hj; subst hj; simp [Addr.add_lit]
          | 1, hj => simp at hj; subst hj; simp [Addr.add_lit]
          | j + 2, hj => simp at hj
        have O4 := hideH (O3.out.on HBn.out)
        have R4 : Hid ((W3.alloc (.cells #[.slice none 0 0, .int .i64 (-1)] 43)).ownsRow base 43 2 (.slice (some ⟨g, 0, none⟩) T.length cap) T.length (ncells VS (T.set a ⟨put1 (nod T a).es C s[n] T.length, (nod T a).wd⟩) T.length)) := by
          have := O4.out.row
          rw [List.length_set] at this
          exact this
        have HBs : Hid (base ≤ (W3.alloc (.cells #[.slice none 0 0, .int .i64 (-1)] 43)).heap.size) := by
          have h1 := B3.out.size
          have h2 := HB.out
          have h3 := HBn.out.size
          show _ ≤ _
          omega
        go_wp2_with (at_builtin; refine wpList_append_lies _ rfl _ _ 38 rfl base 43 i0 _ 2 32 Tryz.underlying38 hi hz0 hz1 hz2 rfl (by decide) _ _ _ rfl R4.out ⟨W3.heap.size, 0, none⟩ 1 1 [.slice none 0 0, .int .i64 (-1)] rfl rfl HNw.out (by simp [Value.oneCell']) (by decide) (by unfold maxLen; omega) (by omega) HBs.out _ rfl ?_; intro g4 q4 w4 hown4 hgrow4 hat4 hl4)
        have HI5 : Hid (aI base w t s (grow T a s[n]) (.slice (some ⟨g4, 0, none⟩) (grow T a s[n]).length q4) (n + 1) T.length w4) := by
          have h5 := OwT.node (g := g4) (cap := q4) O4.out hgrow4 (by rw [List.length_set]; exact hown4) hat4 (Nat.le_refl _)
          rw [HCC.out, ← grow_put, List.length_set] at h5
          rw [grow_len]
          exact aI_next hlt h5 HK2.out HPp.out HLy.out HE.out (by have := HTL.out; omega) (below_own (B3.out.trans (HBn.out.mono (by have := B3.out.size; have := HB.out; omega))) HB.out R4.out hgrow4)
        clear hown4 hgrow4 hat4 hl4 O3 O4 R4 HBn HNw HBs B3
        go_roundw
        case rel => exact ⟨grow T a s[n], n + 1, T.length, g4, q4, by omega, by rw [grow_len], by go_num, rfl, HI5⟩
        case measure => simp [intOf]; omega
    · obtain rfl : n = s.size := by omega
      obtain ⟨vs, pre, p, hO, hk, hp, hlay, -, hTl, hbel⟩ := HA.out
      have hal : a < T.length := by rw [hk.len]; exact (List.getElem?_eq_some_iff.1 hp).1
      obtain ⟨g', cap', he2, hbg, hgw, -, hcells, hfz⟩ := hO.slice (by omega)
      simp only [Value.slice.injEq, Option.some.injEq, Addr.mk.injEq, and_true, true_and] at he2
      obtain ⟨rfl, rfl⟩ := he2
      have d1 := (hcells a hal).2
      have f1 := hfz (a * 2 + 1)
      have hTl2 : T.length ≤ tl + s.size := by have := HTL.out; omega
      have HEnd : Hid (addw t s.data.toList num = mark T a num) := by
        show _ = _
        unfold addw
        rw [hlay, List.drop_of_length_le (by rw [sz_len]; exact Nat.le_refl _)]
        rfl
      have HO2 := hideH hO
      have HB2 := hideH hbel
      clear hO hk hp hlay hTl hbel hcells hfz HA
      have hai : (a : Int) < (T.length : Int) := by omega
      have hni : ¬ ((s.size : Int) < (s.size : Int)) := by omega
      by_cases hq : (nod T a).wd = -1
      · have HE2 : Hid (addw t s.data.toList num = T.set a ⟨(nod T a).es, num⟩) := by show _ = _; rw [HEnd.out]; unfold mark; rw [if_pos hq]
        rw [hq] at d1
        clear hq HEnd
        go_wp2_with fail
        go_ret
        unfold adP
        refine ⟨_, vs, rfl, ?_, HB2.out.setCell (p := ⟨g, a * 2 + 1, none⟩) hbg _⟩
        rw [HE2.out]
        exact HO2.out.word num hal
      · have HE2 : Hid (addw t s.data.toList num = T) := by show _ = _; rw [HEnd.out]; unfold mark; rw [if_neg hq]
        have hqb : ((nod T a).wd == -1) = false := beq_eq_false_iff_ne.2 hq
        clear hq HEnd
        go_wp2_with fail
        go_ret
        unfold adP
        refine ⟨_, vs, rfl, ?_, HB2.out⟩
        rw [HE2.out]
        exact HO2.out
end Go.Proofs.YtfjjdicgekgbeaaGreatDoor.Tri

/- The contract of trie.Build. -/
namespace Go.Proofs.YtfjjdicgekgbeaaGreatDoor.Tri
open Go Go.RowKit Go.Maps
set_option linter.unusedVariables false

/-- texts in a row -/
def TxA (w : World) (a : Option Addr) (n : Nat) (ss : Nat → ByteArray) : Prop := n = 0 ∨ ∃ b off, a = some ⟨b, off, none⟩ ∧ ∀ j, j < n → w.cell? ⟨b, off + j, none⟩ = some (.string (ss j))
theorem TxA.on {w w' : World} {a : Option Addr} {n : Nat} {ss : Nat → ByteArray} (p : TxA w a n ss) (hb : Below w.heap.size w w') : TxA w' a n ss := by
  rcases p with p | ⟨b, off, h1, h2⟩
  · exact .inl p
  · exact .inr ⟨b, off, h1, fun j hj => cell_on (h2 j hj) hb⟩
/-- the words -/
def wl (n : Nat) (ss : Nat → ByteArray) : List (List UInt8) := (List.range n).map fun j => (ss j).data.toList
theorem wl_len (n : Nat) (ss : Nat → ByteArray) : (wl n ss).length = n := by simp [wl]
theorem wo_wl {n : Nat} {ss : Nat → ByteArray} {j : Nat} (h : j < n) : wo (wl n ss) j = (ss j).data.toList := by unfold wo wl; simp [h]
def okW (s : ByteArray) : Bool := decide (1 ≤ s.size ∧ s.size ≤ 12)
/-- Build's error -/
def bldE (n : Nat) (ss : Nat → ByteArray) : Int := if 40 < n then 2 else if (List.range n).all (fun j => okW (ss j)) then 0 else 5
theorem bldE_many {n : Nat} (ss : Nat → ByteArray) (h : 40 < n) : bldE n ss = 2 := by unfold bldE; rw [if_pos h]
theorem bldE_ok {n : Nat} {ss : Nat → ByteArray} (h : n ≤ 40) (k : ∀ j, j < n → okW (ss j) = true) : bldE n ss = 0 := by
  unfold bldE; rw [if_neg (by omega), if_pos (List.all_eq_true.2 fun j hj => k j (List.mem_range.1 hj))]
theorem bldE_bad {n : Nat} {ss : Nat → ByteArray} (h : n ≤ 40) {j : Nat} (hj : j < n) (k : okW (ss j) = false) : bldE n ss = 5 := by
  unfold bldE; rw [if_neg (by omega), if_neg]
  intro hc
  have := List.all_eq_true.1 hc j (List.mem_range.2 hj)
  rw [k] at this; cases this
theorem bldE_zero {n : Nat} {ss : Nat → ByteArray} (h : bldE n ss = 0) : n ≤ 40 ∧ ∀ j, j < n → okW (ss j) = true := by
  unfold bldE at h
  split at h
  · cases h
  · split at h
    · rename_i h1 h2
      exact ⟨by omega, fun j hj => List.all_eq_true.1 h2 j (List.mem_range.2 hj)⟩
    · cases h
theorem okW_sz {s : ByteArray} (h : okW s = true) : 1 ≤ s.size ∧ s.size ≤ 12 := by unfold okW at h; simpa using h
theorem sz_bd (l : List (List UInt8)) : ∀ k, (∀ j, j < k → (wo l j).length ≤ 12) → sz l k ≤ 1 + 12 * k
  | 0, _ => Nat.le_refl _
  | k + 1, h => by
    have := sz_bd l k (fun j hj => h j (by omega))
    have h2 := h k (by omega)
    simp only [sz]
    omega
theorem bld_fits {n : Nat} {ss : Nat → ByteArray} {k : Nat} (hk : k ≤ n) (hn : n ≤ 40) (h : ∀ j, j < n → (ss j).size ≤ 12) : ∃ pre, Ok (bldN (wl n ss) k) pre ∧ (∀ i, i < (bldN (wl n ss) k).length → -1 ≤ (nod (bldN (wl n ss) k) i).wd) ∧ (bldN (wl n ss) k).length ≤ 600 := by
  obtain ⟨pre, o1, o2, o3, o4⟩ := bld_ok (wl n ss) k
  refine ⟨pre, o1, fun i hi => ?_, ?_⟩
  · rw [o1.len] at hi
    rw [o3 i _ (List.getElem?_eq_getElem hi)]
    exact fw_ge _ _ _
  · have := sz_bd (wl n ss) k (fun j hj => by rw [wo_wl (by omega), sz_len]; exact h j (by omega))
    omega
theorem bld_okT {n : Nat} {ss : Nat → ByteArray} (hn : bldE n ss = 0) : okT (bldN (wl n ss) n) := by
  obtain ⟨h1, h2⟩ := bldE_zero hn
  obtain ⟨pre, o1, o2, _⟩ := bld_fits (Nat.le_refl n) h1 (fun j hj => (okW_sz (h2 j hj)).2)
  exact ok_okT o1 o2
theorem bld_fitT {n : Nat} {ss : Nat → ByteArray} (hn : bldE n ss = 0) : fitT (bldN (wl n ss) n) := by
  obtain ⟨h1, h2⟩ := bldE_zero hn
  obtain ⟨pre, o1, _, o3⟩ := bld_fits (Nat.le_refl n) h1 (fun j hj => (okW_sz (h2 j hj)).2)
  exact ⟨by unfold maxLen; omega, fun j hj => by have := rises_len (o1.so j); unfold maxLen; omega⟩
/-- what Build answers -/
def buP (n : Nat) (ss : Nat → ByteArray) (w : World) (e : Ending) (w' : World) : Prop :=
  Below w.heap.size w w' ∧ ((bldE n ss ≠ 0 ∧ e = .returned (.tuple #[.slice none 0 0, .int .i64 (bldE n ss)])) ∨ (bldE n ss = 0 ∧ ∃ v vs, e = .returned (.tuple #[v, .int .i64 0]) ∧ OwT w' w.heap.size v vs (bldN (wl n ss) n)))
theorem own_start (w : World) : OwT (w.alloc (.cells #[.slice none 0 0, .int .i64 (-1)] 43)) w.heap.size (.slice (some ⟨w.heap.size, 0, none⟩) 1 1) (fun _ => .slice none 0 0) start := by
  refine ⟨?_, fun j hj => ?_, fun j hj => ap_symm (ap_nil _), fun i j _ _ _ => ap_nil _⟩
  · exact World.ownsRow_lit (base := w.heap.size) (size := 2) w #[.slice none 0 0, .int .i64 (-1)] 1 (Nat.le_refl _) (by unfold maxLen; omega) rfl
  · have : j = 0 := by simp [start] at hj; exact hj
    subst this
    exact ⟨rfl, .inl ⟨rfl, rfl⟩⟩
theorem OwT.mono {w : World} {base base' : Nat} {v : Value} {vs : Nat → Value} {t : List Nd} (h : OwT w base v vs t) (hb : base' ≤ base) : OwT w base' v vs t :=
  have key : ∀ {e : TypeId} {size : Nat} {v : Value} {n : Nat} {xs : List Value}, w.ownsRow base e size v n xs → w.ownsRow base' e size v n xs := fun h => ⟨h.1, h.2.imp id fun ⟨g, cap, cur, h1, h2, h3⟩ => ⟨g, cap, cur, h1, Nat.le_trans hb h2, h3⟩⟩
  ⟨key h.row, fun j hj => key (h.es j hj), h.av, h.aa⟩
set_option maxRecDepth 100000 in
set_option maxHeartbeats 8000000 in
theorem Build_c (a : Option Addr) (n c : Nat) (ss : Nat → ByteArray) (w : World) (hn : n ≤ maxLen) (hP : TxA w a n ss) (hf : ∀ j, j < n → (ss j).size ≤ maxLen) :
    Calls Tryz.prog 8 #[.slice a n c] w fun e w' => buP n ss w e w' := by
  have HP := hideH hP
  have HF := hideH hf
  unfold maxLen at hn
  clear hP hf
  by_cases h40 : 40 < n
  · have h40i : (40 : Int) < (n : Int) := by omega
    have HE := hideH (bldE_many ss h40)
    go_enter Tryz.func8, Tryz.ntmps8
    go_wp2_with fail
    go_ret2
    unfold buP
    exact ⟨Below.refl _ _, .inl ⟨by rw [HE.out]; decide, by rw [HE.out] <;> rfl⟩⟩
  · have h40i : ¬ ((40 : Int) < (n : Int)) := by omega
    go_enter Tryz.func8, Tryz.ntmps8
    go_wp2_with fail
    go_loopw [14] (fun x v => ∃ k : Nat, k ≤ n ∧ x = .int .i64 k ∧ Hid (∀ j, j < k → okW (ss j) = true) ∧ Hid (Below w.heap.size w v)) (fun x _ => n - (intOf x).toNat)
    case atStart => exact ⟨0, Nat.zero_le _, rfl, fun i h1 => by omega, Below.refl _ _⟩
    case round =>
      obtain ⟨k, hk, rfl, HR, HW⟩ := hrel
      by_cases hlt : k < n
      · rcases HP.out.on HW.out with h0 | ⟨b, off, hsa, hcs⟩
        · omega
        have d0 := hcs k hlt
        have hsz := HF.out k hlt
        unfold maxLen at hsz
        clear hcs
        have hki : (k : Int) < (n : Int) := by omega
        by_cases q1 : (ss k).size < 1
        · have q1i : ((ss k).size : Int) < 1 := by omega
          have HE := hideH (bldE_bad (ss := ss) (by omega) hlt (by unfold okW; simp; omega))
          go_wp2_with fail
          go_ret2
          unfold buP
          exact ⟨HW.out, .inl ⟨by rw [HE.out]; decide, by rw [HE.out] <;> rfl⟩⟩
        · have q1i : ¬ (((ss k).size : Int) < 1) := by omega
          by_cases q2 : 12 < (ss k).size
          · have q2i : (12 : Int) < ((ss k).size : Int) := by omega
            have HE := hideH (bldE_bad (ss := ss) (by omega) hlt (by unfold okW; simp; omega))
            go_wp2_with fail
            go_ret2
            unfold buP
            exact ⟨HW.out, .inl ⟨by rw [HE.out]; decide, by rw [HE.out] <;> rfl⟩⟩
          · have q2i : ¬ ((12 : Int) < ((ss k).size : Int)) := by omega
            have HG : Hid (okW (ss k) = true) := by show _ = _; unfold okW; simp; omega
            go_wp2_with fail
            try simp only [← hsa]
            go_roundw
            case rel => exact ⟨k + 1, by omega, by go_num, fun j h1 => by
              by_cases hi : j = k
              · subst hi; exact HG.out
              · exact HR.out j (by omega), HW⟩
            case measure => simp [intOf]; omega
      · obtain rfl : k = n := by omega
        have hki : ¬ ((k : Int) < (k : Int)) := by omega
        have HE := hideH (bldE_ok (ss := ss) (by omega) HR.out)
        have HS12 : Hid (∀ j, j < k → (ss j).size ≤ 12) := fun j hj => (okW_sz (HR.out j hj)).2
        obtain ⟨wo, hwo⟩ : ∃ wo, wo = wr := ⟨_, rfl⟩
        have HW2 : Hid (Below w.heap.size w wo) := by show Below _ _ _; rw [hwo]; exact HW.out
        simp only [← hwo]
        clear hwo HW HR
        have HSt := hideH (own_start wo)
        have HBs := hideH ((Below.refl _ wo).alloc (Nat.le_refl _) (.cells #[.slice none 0 0, .int .i64 (-1)] 43))
        have HSt2 : Hid (OwT (wo.alloc (.cells #[.slice none 0 0, .int .i64 (-1)] 43)) w.heap.size (.slice (some ⟨wo.heap.size, 0, none⟩) 1 1) (fun _ => .slice none 0 0) (bldN (wl k ss) 0)) := HSt.out.mono HW2.out.size
        have HB0 := hideH (bthen HW2.out HBs.out)
        clear HSt HBs
        go_wp2_with fail
        go_loopw [6, 31] (fun x6 x31 v => ∃ (i : Nat) (vs : Nat → Value), i ≤ k ∧ x31 = .int .i64 i ∧ Hid (OwT v w.heap.size x6 vs (bldN (wl k ss) i)) ∧ Hid (Below w.heap.size w v)) (fun _ x31 _ => k - (intOf x31).toNat)
        case atStart => exact ⟨0, _, Nat.zero_le _, rfl, HSt2, HB0⟩
        case round =>
          obtain ⟨i, vs, hi, rfl, HO, HW⟩ := hrel
          by_cases hlt : i < k
          · rcases HP.out.on HW.out with h0 | ⟨b, off, hsa, hcs⟩
            · omega
            have d0 := hcs i hlt
            have hsz := HF.out i hlt
            unfold maxLen at hsz
            clear hcs
            have hki : (i : Int) < (k : Int) := by omega
            obtain ⟨pre, o1, o2, o3⟩ := bld_fits (n := k) (ss := ss) (k := i) (by omega) (by omega) HS12.out
            have HA := hideH (add_c w.heap.size u6 vs (bldN (wl k ss) i) pre (ss i) i wr HO.out o1 o2 o3 (HS12.out i hlt) HW.out.size)
            unfold adP at HA
            clear o1 o2 o3
            go_wp2_with fail
            refine HA.out.mono ?_
            rintro e w2 ⟨v2, vs2, rfl, hO2, hb2⟩
            have HO2 : Hid (OwT w2 w.heap.size v2 vs2 (bldN (wl k ss) (i + 1))) := by
              show OwT _ _ _ _ _
              rw [bld_succ, wo_wl hlt]
              exact hO2
            have H2 := hideH (HW.out.trans hb2)
            clear hO2 hb2 HA
            go_wp2_with fail
            try simp only [← hsa]
            go_roundw
            case rel => exact ⟨i + 1, vs2, by omega, by go_num, HO2, H2⟩
            case measure => simp [intOf]; omega
          · obtain rfl : i = k := by omega
            go_wp2_with fail
            go_ret2
            unfold buP
            exact ⟨HW.out, .inr ⟨HE.out, _, vs, rfl, HO.out⟩⟩
end Go.Proofs.YtfjjdicgekgbeaaGreatDoor.Tri

/- trieBegun; Build as the laws want it. -/
namespace Go.Proofs.YtfjjdicgekgbeaaGreatDoor.Tri
open Go Go.RowKit Go.Maps
set_option linter.unusedVariables false

/-- the trie of words -/
abbrev trI (n : Nat) (ss : Nat → ByteArray) : List Nd := bldN (wl n ss) n
def btP (n : Nat) (ss : Nat → ByteArray) (w : World) (e : Ending) (w' : World) : Prop :=
  Below w.heap.size w w' ∧ ((bldE n ss ≠ 0 ∧ e = .returned (.tuple #[.slice none 0 0, .int .i64 (bldE n ss)])) ∨ (bldE n ss = 0 ∧ ∃ ta tc, e = .returned (.tuple #[.slice ta (trI n ss).length tc, .int .i64 0]) ∧ TrL w' ta (trI n ss)))
theorem Build_t (a : Option Addr) (n c : Nat) (ss : Nat → ByteArray) (w : World) (hn : n ≤ maxLen) (hP : TxA w a n ss) (hf : ∀ j, j < n → (ss j).size ≤ maxLen) :
    Calls Tryz.prog 8 #[.slice a n c] w fun e w' => btP n ss w e w' := by
  refine (Build_c a n c ss w hn hP hf).mono ?_
  rintro e w' ⟨hb, h | ⟨h0, v, vs, rfl, hO⟩⟩
  · exact ⟨hb, .inl h⟩
  · obtain ⟨ta, tc, rfl, _, htr⟩ := hO.trl (bld_okT h0).1
    exact ⟨hb, .inr ⟨h0, ta, tc, rfl, htr⟩⟩
theorem Build_ok (a : Option Addr) (n c : Nat) (ss : Nat → ByteArray) (w : World) (hn : n ≤ maxLen) (hP : TxA w a n ss) (hf : ∀ j, j < n → (ss j).size ≤ maxLen) (h0 : bldE n ss = 0) :
    Calls Tryz.prog 8 #[.slice a n c] w fun e w' => ∃ ta tc, e = .returned (.tuple #[.slice ta (trI n ss).length tc, .int .i64 0]) ∧ TrL w' ta (trI n ss) ∧ Below w.heap.size w w' := by
  refine (Build_t a n c ss w hn hP hf).mono ?_
  rintro e w' ⟨hb, ⟨h, _⟩ | ⟨_, ta, tc, rfl, htr⟩⟩
  · exact absurd h0 h
  · exact ⟨ta, tc, rfl, htr, hb⟩
theorem Build_no (a : Option Addr) (n c : Nat) (ss : Nat → ByteArray) (w : World) (hn : n ≤ maxLen) (hP : TxA w a n ss) (hf : ∀ j, j < n → (ss j).size ≤ maxLen) (h0 : bldE n ss ≠ 0) :
    Calls Tryz.prog 8 #[.slice a n c] w fun e w' => e = .returned (.tuple #[.slice none 0 0, .int .i64 (bldE n ss)]) ∧ Below w.heap.size w w' := by
  refine (Build_t a n c ss w hn hP hf).mono ?_
  rintro e w' ⟨hb, ⟨h, rfl⟩ | ⟨h, _⟩⟩
  · exact ⟨rfl, hb⟩
  · exact absurd h h0
/-- the words of trieBegun -/
def bgS (j : Nat) : ByteArray := match j with | 0 => ⟨#[97, 98]⟩ | 1 => ⟨#[97, 98, 99]⟩ | 2 => ⟨#[98]⟩ | _ => ⟨#[97, 98]⟩
def emS (_ : Nat) : ByteArray := ⟨#[]⟩
theorem bg0 : bldE 4 bgS = 0 := by kernel_rfl
theorem bg1 : bldE 1 emS = 5 := by kernel_rfl
theorem bg2 : (trI 4 bgS).length = 5 := by kernel_rfl
theorem bg3 : fndR (trI 4 bgS) ⟨#[97, 98]⟩ = 0 := by kernel_rfl
theorem bg4 : longR (trI 4 bgS) ⟨#[97, 98, 100]⟩ = (0, 2) := by kernel_rfl
theorem bg5 : longR (trI 4 bgS) ⟨#[120]⟩ = (-1, 0) := by kernel_rfl
theorem bg6 : tchk (trI 4 bgS) = 0 := by kernel_rfl
theorem bg7 : tchk [] = 1 := by kernel_rfl
end Go.Proofs.YtfjjdicgekgbeaaGreatDoor.Tri

/- What is found in a trie that was built: plain facts for the laws; choose. -/
namespace Go.Proofs.YtfjjdicgekgbeaaGreatDoor.Tri
open Go Go.RowKit Go.Maps
set_option linter.unusedVariables false

/-- which word a text is -/
abbrev fwW (N : Nat) (ss : Nat → ByteArray) (s : List UInt8) : Int := fw (wl N ss) N s
theorem fnd_fw {N : Nat} {ss : Nat → ByteArray} (h0 : bldE N ss = 0) (s : ByteArray) : fndR (trI N ss) s = fwW N ss s.data.toList := by
  unfold fndR
  rw [if_pos (tchk_yes (bld_okT h0)), find_bld]
theorem fw_nil {N : Nat} {ss : Nat → ByteArray} (h0 : bldE N ss = 0) : fwW N ss [] = -1 := by
  rcases fw_spec (wl N ss) [] N with ⟨h, _⟩ | ⟨j, _, h2, h3, _⟩
  · exact h
  · rw [wo_wl h2] at h3
    have := (okW_sz ((bldE_zero h0).2 j h2)).1
    rw [← sz_len, h3] at this
    simp at this
structure LgF (N : Nat) (ss : Nat → ByteArray) (s : ByteArray) (L : Int × Nat) : Prop where
  le : L.2 ≤ s.size
  at_ : L.1 = fwW N ss (s.data.toList.take L.2)
  more : ∀ m, L.2 < m → m ≤ s.size → fwW N ss (s.data.toList.take m) = -1
  iff : L.1 = -1 ↔ L.2 = 0
  ge : -1 ≤ L.1
theorem long_facts {N : Nat} {ss : Nat → ByteArray} (h0 : bldE N ss = 0) (s : ByteArray) : LgF N ss s (longR (trI N ss) s) := by
  have e : longR (trI N ss) s = lgT (fun n => fwW N ss (s.data.toList.take n)) s.size := by
    unfold longR
    rw [if_pos (tchk_yes (bld_okT h0))]
    unfold longT
    rw [sz_len]
    exact lgT_congr fun m _ => find_bld _ _ _
  obtain ⟨h1, h2, h3, h4⟩ := lgT_spec (fun n => fwW N ss (s.data.toList.take n)) s.size
  rw [e]
  refine ⟨h1, h2, h3, ⟨fun h => h4 (by rw [← h2]; exact h), fun h => ?_⟩, ?_⟩
  · rw [h2, h]
    simp only [List.take_zero]
    exact fw_nil h0
  · rw [h2]; exact fw_ge _ _ _
theorem app_take (s b : ByteArray) {m : Nat} (h : m ≤ s.size) : (s ++ b).data.toList.take m = s.data.toList.take m := by
  have e : (s ++ b).data.toList = s.data.toList ++ b.data.toList := by simp
  rw [e, List.take_append_of_le_length (by rw [sz_len]; exact h)]
theorem app_size (s b : ByteArray) : (s ++ b).size = s.size + b.size := by simp
/-- of a longer text the longest word is not shorter -/
theorem long_mono {N : Nat} {ss : Nat → ByteArray} (h0 : bldE N ss = 0) (s b : ByteArray) : (longR (trI N ss) s).2 ≤ (longR (trI N ss) (s ++ b)).2 := by
  have f := long_facts h0 s
  have g := long_facts h0 (s ++ b)
  rcases Nat.lt_or_ge (longR (trI N ss) (s ++ b)).2 (longR (trI N ss) s).2 with h | h
  · have := g.more _ h (by rw [app_size]; have := f.le; omega)
    rw [app_take _ _ f.le, ← f.at_] at this
    have := f.iff.1 this
    omega
  · exact h
/-- of the word itself it is all of it -/
theorem long_self {N : Nat} {ss : Nat → ByteArray} (h0 : bldE N ss = 0) (s u : ByteArray) (hu : u.data.toList = s.data.toList.take (longR (trI N ss) s).2) : longR (trI N ss) u = longR (trI N ss) s := by
  have f := long_facts h0 s
  have hs : u.size = (longR (trI N ss) s).2 := by
    rw [← sz_len, hu, List.length_take, sz_len]
    have := f.le
    omega
  have e : longR (trI N ss) u = lgT (fun n => fwW N ss (u.data.toList.take n)) u.size := by
    unfold longR
    rw [if_pos (tchk_yes (bld_okT h0))]
    unfold longT
    rw [sz_len]
    exact lgT_congr fun m _ => find_bld _ _ _
  rw [e, hs]
  have := lgT_uniq (f := fun n => fwW N ss (u.data.toList.take n)) (N := (longR (trI N ss) s).2) (n := (longR (trI N ss) s).2) (Nat.le_refl _) (fun m h1 h2 => by omega) (fun h => by
    rw [hu, List.take_take, Nat.min_self, ← f.at_] at h
    exact f.iff.1 h)
  rw [this, hu, List.take_take, Nat.min_self, ← f.at_]
theorem trI_len (N : Nat) (ss : Nat → ByteArray) : (trI N ss).length ≤ sz (wl N ss) N := by
  obtain ⟨_, _, _, _, h⟩ := bld_ok (wl N ss) N
  exact h
def cho (c n : Int) : Int := if c < 0 then (-(c + 1)).tmod n else c.tmod n
theorem cho_bd (c n : Int) (hn : 0 < n) : 0 ≤ cho c n ∧ cho c n < n := by
  unfold cho
  split
  · rw [Int.tmod_eq_emod_of_nonneg (by omega)]; exact ⟨Int.emod_nonneg _ (by omega), Int.emod_lt_of_pos _ hn⟩
  · rw [Int.tmod_eq_emod_of_nonneg (by omega)]; exact ⟨Int.emod_nonneg _ (by omega), Int.emod_lt_of_pos _ hn⟩
end Go.Proofs.YtfjjdicgekgbeaaGreatDoor.Tri
