/- The contracts of package trie: farthest. -/
import Derived.Test.YthkdjklpegmnnaaTrieD
namespace Go.Proofs.Ythkdjklpegmnnaa.Tri
open Go Go.RowKit Go.Shelf
set_option linter.unusedVariables false
attribute [local go_sem] Oper.semAt_some

/-- two boxes, and two behind them -/
theorem heap4 (w : World) (o1 o2 o3 o4 : Obj) : ((((w.alloc o1).alloc o2).alloc o3).alloc o4).heap[w.heap.size]? = some o1 ∧ ((((w.alloc o1).alloc o2).alloc o3).alloc o4).heap[w.heap.size + 1]? = some o2 ∧ ((((w.alloc o1).alloc o2).alloc o3).alloc o4).heap[w.heap.size + 2]? = some o3 ∧ ((((w.alloc o1).alloc o2).alloc o3).alloc o4).heap[w.heap.size + 3]? = some o4 := by
  refine ⟨?_, ?_, ?_, ?_⟩
  · rw [Below.heap_alloc _ _ _ (by simp <;> omega), Below.heap_alloc _ _ _ (by simp <;> omega), Below.heap_alloc _ _ _ (by simp)]; exact World.alloc_heap_new _ _
  · rw [Below.heap_alloc _ _ _ (by simp <;> omega), Below.heap_alloc _ _ _ (by simp)]
    have := World.alloc_heap_new (w.alloc o1) o2; rwa [World.size_alloc] at this
  · rw [Below.heap_alloc _ _ _ (by simp)]
    have := World.alloc_heap_new ((w.alloc o1).alloc o2) o3; rwa [World.size_alloc, World.size_alloc] at this
  · have := World.alloc_heap_new (((w.alloc o1).alloc o2).alloc o3) o4; rwa [World.size_alloc, World.size_alloc, World.size_alloc] at this
theorem setCell_one {w : World} {b : Nat} {x v : Value} {t : TypeId} (h : w.heap[b]? = some (.cells #[x] t)) : (w.setCell ⟨b, 0, none⟩ v).heap[b]? = some (.cells #[v] t) := by
  have hlt := (Array.getElem?_eq_some_iff.1 h).1
  have h' := (Array.getElem?_eq_some_iff.1 h).2
  simp [World.setCell, hlt, Array.getElem_modify, h']
theorem setCell_far {w : World} {b b' o : Nat} {v : Value} (h : b' ≠ b) : (w.setCell ⟨b, o, none⟩ v).heap[b']? = w.heap[b']? := Below.heap_setCell _ _ _ _ (by exact h)
/-- what holds between two rounds of farthest -/
def FI (w : World) (ta : Option Addr) (tc : Nat) (t : List Nd) (s : ByteArray) (k : Nat) (W : World) : Prop :=
  Below w.heap.size w W ∧ (∃ x y, W.heap[w.heap.size]? = some (.cells #[.int .i64 x] 3) ∧ W.heap[w.heap.size + 1]? = some (.cells #[.int .i64 y] 3) ∧ (k ≠ 0 → x = ((k - 1 : Nat) : Int) ∧ y = atN t s (k - 1))) ∧ W.heap[w.heap.size + 2]? = some (.cells #[.slice ta t.length tc] 23) ∧ W.heap[w.heap.size + 3]? = some (.cells #[.string s] 9) ∧ TrL W ta t
theorem FI.on {w : World} {ta : Option Addr} {tc : Nat} {t : List Nd} {s : ByteArray} {k : Nat} {W W' : World} (h : FI w ta tc t s k W) (hP : TrL w ta t) (hb : Below (w.heap.size + 4) W W') : FI w ta tc t s k W' := by
  obtain ⟨h1, ⟨x, y, h2, h3, h4⟩, h5, h6, h7⟩ := h
  exact ⟨h1.trans (hb.mono (by omega)), ⟨x, y, (hb.block _ (by omega)).trans h2, (hb.block _ (by omega)).trans h3, h4⟩, (hb.block _ (by omega)).trans h5, (hb.block _ (by omega)).trans h6, hP.on (h1.trans (hb.mono (by omega)))⟩
set_option maxRecDepth 100000 in
set_option maxHeartbeats 2000000 in
theorem farthest_c (ta : Option Addr) (tc : Nat) (t : List Nd) (s : ByteArray) (w : World) (hs : s.size ≤ maxLen) (hf : fitT t) (hok : okT t) (hP : TrL w ta t) :
    Calls Try.prog 25 #[.slice ta t.length tc, .string s] w fun e w' => ∃ m : Nat, e = .returned (.tuple #[.int .i64 m, .int .i64 (atN t s m)]) ∧ Far t s m ∧ Below w.heap.size w w' := by
  refine calls_of_wpG Try.func25 rfl ?_
  simp only [Try.ntmps25, List.size_toArray, List.length_cons, List.length_nil, Nat.reduceAdd, Nat.reduceSub, Array.replicate_succ, Array.replicate_zero, List.push_toArray, List.append_toArray, List.nil_append, List.cons_append]
  have HS := hideH hs
  have HF := hideH hf
  have HO := hideH hok
  have HP := hideH hP
  clear hs hf hok hP
  refine wpG_seq (wpG_plain ?_)
  go_wp2
  refine wpG_seq (wpG_plain ?_)
  go_wp2
  refine wpG_seq (wpG_seq (wpG_plain ?_))
  go_wp2_with (go_at_call 26; refine (along_c _ _ _ _ _).mono ?_; rintro e w1 ⟨rfl, rfl⟩)
  refine wpG_block ?_
  obtain ⟨W4, hW4⟩ : ∃ W4, W4 = (((w.alloc (.cells #[.int .i64 0] 3)).alloc (.cells #[.int .i64 0] 3)).alloc (.cells #[.slice ta t.length tc] 23)).alloc (.cells #[.string s] 9) := ⟨_, rfl⟩
  have hs4 : W4.heap.size = w.heap.size + 4 := by rw [hW4]; simp
  have hb4 : Below w.heap.size w W4 := by rw [hW4]; exact ((((Below.refl _ w).alloc (Nat.le_refl _) _).alloc (by simp) _).alloc (by simp; omega) _).alloc (by simp; omega) _
  have hk4 := heap4 w (.cells #[.int .i64 0] 3) (.cells #[.int .i64 0] 3) (.cells #[.slice ta t.length tc] 23) (.cells #[.string s] 9)
  rw [← hW4] at hk4
  have HI0 : Hid (FI w ta tc t s 0 W4) := ⟨hb4, ⟨0, 0, hk4.1, hk4.2.1, fun h => absurd rfl h⟩, hk4.2.2.1, hk4.2.2.2, HP.out.on hb4⟩
  simp only [← hW4]
  simp only [Nat.add_assoc, Nat.reduceAdd]
  clear hW4 hk4 hb4
  refine rng_p Try.func25 9 29 #[.pointer (some ⟨w.heap.size + 3, 0, none⟩), .pointer (some ⟨w.heap.size + 2, 0, none⟩)] rfl (fun _ _ => by simp [go_sem]) rfl (fun k => (.int .i64 k, .int .i64 (atN t s k))) (fun k => k ≤ s.size ∧ (go t 0 (s.data.toList.take k)).isSome = true) (Far t s) (FI w ta tc t s) ?hI HI0.out
    (fun k => { tmps := #[.slice ta t.length tc, .string s, undef, undef, .int .i64 0, .int .i64 0, .pointer (some ⟨w.heap.size, 0, none⟩), .pointer (some ⟨w.heap.size + 1, 0, none⟩), .int .i64 k, .int .i64 (atN t s k), .slice ta t.length tc, .string s, .func (.func 29) #[] #[.pointer (some ⟨w.heap.size + 3, 0, none⟩), .pointer (some ⟨w.heap.size + 2, 0, none⟩)], .int .i64 k, .int .i64 (atN t s k), undef, undef, undef, undef], defers := [] })
    ?hit ?assign ?body ?done
  case hI =>
    intro k W W' h hb
    rw [hs4] at hb
    exact h.on HP.out hb
  case hit =>
    intro l J W1 h1 h2 h3 h4
    refine along1_c 8 l (w.heap.size + 3) (w.heap.size + 2) tc ta t s J HS.out HF.out HO.out h1 (fun k W h => ?_) (fun k W h h' => h3 k W h h') W1 h4
    obtain ⟨⟨-, -, h5, h6, h7⟩, hl⟩ := h2 k W h
    exact ⟨⟨by simp [World.cell?, h6], by simp [World.cell?, h5], h7⟩, hl⟩
  case assign =>
    intro l k W K hk hK
    gi_wp2
    exact hK
  case body =>
    rintro l k W hk ⟨h1, ⟨x, y, h2, h3, h4⟩, h5, h6, h7⟩
    have f0 : W.frozen? ⟨w.heap.size, 0, none⟩ = false := by simp [World.frozen?, h2]
    have f1 : W.frozen? ⟨w.heap.size + 1, 0, none⟩ = false := by simp [World.frozen?, h3]
    have c0 : W.cell? ⟨w.heap.size, 0, none⟩ = some (.int .i64 x) := by simp [World.cell?, h2]
    have c1 : W.cell? ⟨w.heap.size + 1, 0, none⟩ = some (.int .i64 y) := by simp [World.cell?, h3]
    have H1 := hideH h1
    have H2 := hideH h2
    have H3 := hideH h3
    have H5 := hideH h5
    have H6 := hideH h6
    clear h1 h2 h3 h4 h5 h6 h7
    gi_wp2
    show Kept _ W _ ∧ FI w ta tc t s (k + 1) _
    rw [hs4]
    have hbb : Below w.heap.size w ((W.setCell ⟨w.heap.size, 0, none⟩ (.int .i64 k)).setCell ⟨w.heap.size + 1, 0, none⟩ (.int .i64 (atN t s k))) := (H1.out.setCell (p := ⟨w.heap.size, 0, none⟩) (Nat.le_refl _) _).setCell (p := ⟨w.heap.size + 1, 0, none⟩) (by simp) _
    refine ⟨((Kept.refl _ W).set (by omega) _).set (by omega) _, hbb, ⟨k, atN t s k, ?_, ?_, fun _ => ⟨rfl, rfl⟩⟩, ?_, ?_, HP.out.on hbb⟩
    · rw [setCell_far (by omega)]; exact setCell_one H2.out
    · exact setCell_one (x := .int .i64 y) (by rw [setCell_far (by omega)]; exact H3.out)
    · rw [setCell_far (by omega), setCell_far (by omega)]; exact H5.out
    · rw [setCell_far (by omega), setCell_far (by omega)]; exact H6.out
  case done =>
    rintro Dk m W hDk ⟨h1, ⟨x, y, h2, h3, h4⟩, h5, h6, h7⟩ hT hk
    rw [hs4] at hDk
    obtain ⟨rfl, rfl⟩ := h4 (by omega)
    show wpG _ _ _ _ _ _
    refine wpG_plain ?_
    have c0 : W.cell? ⟨w.heap.size, 0, none⟩ = some (.int .i64 m) := by simp [World.cell?, h2]
    have c1 : W.cell? ⟨w.heap.size + 1, 0, none⟩ = some (.int .i64 (atN t s m)) := by simp [World.cell?, h3]
    have H1 := hideH h1
    have HK := hideH hk
    have HT := hideH hT
    clear h1 h2 h3 h4 h5 h6 h7 hk hT
    go_wp2_with fail
    go_quiet (fail)
    go_wp2_with fail
    refine mark_leaves (by simp) (B := w.heap.size) (by omega) (W := W.drewN nq) HK.out fun W' hw => ?_
    refine ⟨.tuple #[.int .i64 m, .int .i64 (atN t s m)], ?_, m, rfl, HT.out, (below_drewN H1.out nq).trans hw⟩
    simp [results, Try.results25, go_sem]
end Go.Proofs.Ythkdjklpegmnnaa.Tri
