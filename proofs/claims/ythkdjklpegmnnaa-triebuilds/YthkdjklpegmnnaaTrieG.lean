/- The contract of slices.Insert at edges, of a row of the call's own. -/
import Derived.Test.YthkdjklpegmnnaaTrieF
import Derived.Deep.AppendLies
import Derived.Laws.OwnMore
import Derived.Laws.CopyRow
import Derived.Shelf.Spec.SlicesInsertGrow
import Derived.Laws.Externs
namespace Go.Proofs.Ythkdjklpegmnnaa.Tri
open Go Go.RowKit Go.Lib Go.Maps
set_option linter.unusedVariables false

/-- edges as cells -/
def ecells (es : List (UInt8 × Int)) : List Value := es.flatMap fun e => [.int .u8 (e.1.toNat : Int), .int .i64 e.2]
theorem ecells_nil : ecells [] = [] := rfl
theorem ecells_cons (e : UInt8 × Int) (es : List (UInt8 × Int)) : ecells (e :: es) = .int .u8 (e.1.toNat : Int) :: .int .i64 e.2 :: ecells es := rfl
theorem ecells_append (a b : List (UInt8 × Int)) : ecells (a ++ b) = ecells a ++ ecells b := by unfold ecells; rw [List.flatMap_append]
theorem ecells_len : ∀ (es : List (UInt8 × Int)), (ecells es).length = es.length * 2
  | [] => rfl
  | e :: es => by rw [ecells_cons, List.length_cons, List.length_cons, ecells_len es, List.length_cons]; omega
theorem ecells_take : ∀ (es : List (UInt8 × Int)) (i : Nat), (ecells es).take (i * 2) = ecells (es.take i)
  | es, 0 => by simp [ecells_nil]
  | [], i + 1 => by simp [ecells_nil]
  | e :: es, i + 1 => by
    rw [ecells_cons, show (i + 1) * 2 = i * 2 + 1 + 1 by omega, List.take_succ_cons, List.take_succ_cons, ecells_take es i, List.take_succ_cons, ecells_cons]
theorem ecells_drop : ∀ (es : List (UInt8 × Int)) (i : Nat), (ecells es).drop (i * 2) = ecells (es.drop i)
  | es, 0 => by simp
  | [], i + 1 => by simp [ecells_nil]
  | e :: es, i + 1 => by
    rw [ecells_cons, show (i + 1) * 2 = i * 2 + 1 + 1 by omega, List.drop_succ_cons, List.drop_succ_cons, ecells_drop es i, List.drop_succ_cons]
theorem ecells_one : ∀ (es : List (UInt8 × Int)), ∀ v ∈ ecells es, v.oneCell' = true
  | [], v, h => by simp [ecells_nil] at h
  | e :: es, v, h => by
    rw [ecells_cons, List.mem_cons, List.mem_cons] at h
    rcases h with h | h | h
    · rw [h]; rfl
    · rw [h]; rfl
    · exact ecells_one es v h
/-- copy, of elements of whatever size, into a row that nothing of is frozen -/
theorem run_copy_rowS {P : Program} (w : World) (dT sT ty elem : TypeId) (g o dLen dCap : Nat) (a : Addr) (sLen sCap : Nat) (cur : Array Value) (t : TypeId) (cs : List Value) (S N : Nat)
    (hu : P.underlying dT = some (.slice elem)) (hs : (P.info? elem).map (·.size) = some S)
    (hg : w.heap[g]? = some (.cells cur t (0, 0))) (hN : Nat.min sLen dLen = N) (hn : cs.length = N * S)
    (hsrc : ∀ j v, cs[j]? = some v → w.cell? (a.add j) = some v) (hfit : o + cs.length ≤ cur.size) (h1 : ∀ v ∈ cs, v.oneCell' = true) :
    (Builtin.copy_ #[dT, sT] ty #[.slice (some ⟨g, o, none⟩) dLen dCap, .slice (some a) sLen sCap]).run P w =
      .ok (goInt N) (w.setRow g (cur.toList.take o ++ cs ++ cur.toList.drop (o + cs.length)).toArray) := by
  have hl := run_loadCells_list (P := P) w a cs hsrc
  have hst := run_storeCells_at P g o t cs 0 cur w hg (by simpa using hfit) h1
  cases hq : P.info? elem with
  | none => simp [hq] at hs
  | some i =>
    have hi : i.size = S := by simpa [hq] using hs
    simp [Builtin.copy_, run_underlying hu, Builtin.lenOf, Builtin.firstCells, sizeOf, typeInfo, hq, hi, hN, ← hn, hl, hst]
theorem setRow_grown {w : World} {g : Nat} {cur cur' : Array Value} {t : TypeId} (hg : w.heap[g]? = some (.cells cur t (0, 0))) : w.grownBy (w.setRow g cur') (some g) := by
  refine ⟨rfl, rfl, rfl, by simp [World.setRow], fun k hk hne => ?_⟩
  unfold World.setRow
  rw [Array.getElem?_modify, if_neg (fun e => hne (by rw [e]))]
theorem info_edge : (Try.prog.info? 52).map (fun i => (i.zero, i.size, i.bytes)) = some (some (.agg #[.int .u8 0, .int .i64 0]), 2, 16) := by kernel_rfl
/-- what slices.Insert leaves -/
def inP (base : Nat) (v : Value) (n : Nat) (xs : List Value) (w : World) (e : Ending) (w' : World) : Prop :=
  ∃ v', e = .returned v' ∧ w'.ownsRow base 52 2 v' n xs ∧ w.grownBy w' v.ownBlock ∧ (v'.ownBlock = v.ownBlock ∨ ∃ g, v'.ownBlock = some g ∧ w.heap.size ≤ g)
theorem ins_end (es : List (UInt8 × Int)) (c : UInt8) (k : Int) : ecells (es.take es.length ++ (c, k) :: es.drop es.length) = ecells es ++ [.int .u8 (c.toNat : Int), .int .i64 k] := by
  rw [List.take_length, List.drop_length, ecells_append]; rfl
set_option maxRecDepth 100000 in
set_option maxHeartbeats 4000000 in
theorem Insert_end (base : Nat) (v : Value) (es : List (UInt8 × Int)) (c : UInt8) (k : Int) (vb : Nat) (w : World) (hown : w.ownsRow base 52 2 v es.length (ecells es)) (hlen : es.length ≤ 1000) (hb : base ≤ w.heap.size) (hv : w.heap[vb]? = some (.cells #[.int .u8 (c.toNat : Int), .int .i64 k] 52)) :
    Calls Try.prog 28 #[v, .int .i64 es.length, .slice (some ⟨vb, 0, none⟩) 1 1] w fun e w' => inP base v (es.length + 1) (ecells (es.take es.length ++ (c, k) :: es.drop es.length)) w e w' := by
  obtain ⟨i0, hi, hz0, hz1, hz2⟩ := info_parts info_edge
  rw [ins_end]
  have hnews : ∀ j u, [Value.int .u8 (c.toNat : Int), Value.int .i64 k][j]? = some u → w.cell? ((⟨vb, 0, none⟩ : Addr).add j) = some u := fun j u hj => by
    match j, hj with
    | 0, hj => simp at hj; subst hj; simp [World.cell?, hv, Addr.add_lit]
    | 1, hj => simp at hj; subst hj; simp [World.cell?, hv, Addr.add_lit]
    | j + 2, hj => simp at hj
  have HN := hideH hnews
  have HO := hideH hown
  have HB := hideH hb
  obtain ⟨n, hn⟩ : ∃ n, n = es.length := ⟨_, rfl⟩
  obtain ⟨xs, hxs⟩ : ∃ xs, xs = ecells es := ⟨_, rfl⟩
  rw [← hn, ← hxs] at HO
  rw [← hn] at hlen ⊢
  rw [← hxs]
  clear hnews hv hb hxs hn hown
  rcases HO.out.2 with ⟨rfl, h0⟩ | ⟨g, cap, cur, rfl, hbg, hg, hnc, hcm, hcs, htake⟩
  · subst h0
    go_enter Try.func28, Try.ntmps28
    go_wp2_with (at_builtin; refine wpList_append_lies _ rfl _ _ 45 rfl base 52 i0 _ 2 16 Try.underlying45 hi hz0 hz1 hz2 rfl (by decide) (.slice none 0 0) 0 xs rfl HO.out ⟨vb, 0, none⟩ 1 1 [.int .u8 (c.toNat : Int), .int .i64 k] rfl rfl HN.out (by simp [Value.oneCell']) (by decide) (by unfold maxLen; omega) (by omega) HB.out _ rfl ?_; intro g4 q4 w3 hown3 hgrow hat hl1)
    go_ret
    unfold inP
    refine ⟨_, rfl, hown3, hgrow, .inr ⟨g4, rfl, ?_⟩⟩
    rcases hat with h | h
    · simp [Value.ownBlock] at h
    · omega
  · unfold maxLen at hcm
    clear hbg hg hcs htake
    go_enter Try.func28, Try.ntmps28
    go_wp2_with (at_builtin; refine wpList_append_lies _ rfl _ _ 45 rfl base 52 i0 _ 2 16 Try.underlying45 hi hz0 hz1 hz2 rfl (by decide) (.slice (some ⟨g, 0, none⟩) n cap) n xs rfl HO.out ⟨vb, 0, none⟩ 1 1 [.int .u8 (c.toNat : Int), .int .i64 k] rfl rfl HN.out (by simp [Value.oneCell']) (by decide) (by unfold maxLen; omega) (by omega) HB.out _ rfl ?_; intro g4 q4 w3 hown3 hgrow hat hl1)
    all_goals
      go_ret
      unfold inP
      refine ⟨_, rfl, hown3, hgrow, ?_⟩
      rcases hat with h | h
      · exact .inl h.symm
      · exact .inr ⟨g4, rfl, by omega⟩
end Go.Proofs.Ythkdjklpegmnnaa.Tri
