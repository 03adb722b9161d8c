/- The contracts of package trie: Find, Longest. -/
import Derived.Test.YthkdjklpegmnnaaTrieE
namespace Go.Proofs.Ythkdjklpegmnnaa.Tri
open Go Go.RowKit Go.Shelf
set_option linter.unusedVariables false
attribute [local go_sem] Oper.semAt_some

theorem far_at {t : List Nd} {s : ByteArray} {m : Nat} (h : Far t s m) : go t 0 (s.data.toList.take m) = some (atN t s m) := by
  obtain ⟨_, h1, _⟩ := h
  unfold atN
  cases hg : go t 0 (s.data.toList.take m) with
  | none => rw [hg] at h1; cases h1
  | some k => rfl
theorem sz_len (s : ByteArray) : s.data.toList.length = s.size := by simp
theorem take_all (s : ByteArray) : s.data.toList.take s.size = s.data.toList := by rw [← sz_len, List.take_length]
theorem far_find {t : List Nd} {s : ByteArray} {m : Nat} (h : Far t s m) : findT t s.data.toList = if m < s.size then -1 else (nod t (atN t s m)).wd := by
  have ha := far_at h
  obtain ⟨h1, _, h2⟩ := h
  by_cases hm : m < s.size
  · rw [if_pos hm]
    rcases h2 with h2 | h2
    · omega
    · have := go_none_more h2 (n := s.size) (by omega)
      rw [take_all] at this
      exact find_none this
  · rw [if_neg hm]
    obtain rfl : m = s.size := by omega
    rw [take_all] at ha
    unfold findT
    rw [ha]
/-- what Find answers -/
def fndR (t : List Nd) (s : ByteArray) : Int := if tchk t = 0 then findT t s.data.toList else 0
set_option maxHeartbeats 2000000 in
theorem Find_c (ta : Option Addr) (tc : Nat) (t : List Nd) (s : ByteArray) (w : World) (hs : s.size ≤ maxLen) (hf : fitT t) (hP : TrL w ta t) :
    Calls Try.prog 15 #[.slice ta t.length tc, .string s] w fun e w' => e = .returned (.tuple #[.int .i64 (fndR t s), .int .i64 (tchk t)]) ∧ Below w.heap.size w w' := by
  have HP := hideH hP
  have HF := hideH hf
  have HC := hideH (TCheck_c ta tc t w hf hP)
  unfold ckP at HC
  have hl := hf.len
  unfold maxLen at hl
  by_cases hok : okT t
  · have h0 := tchk_yes hok
    have HV : Hid (fndR t s = findT t s.data.toList) := by show _ = _; unfold fndR; rw [if_pos h0]
    have HFa := hideH (fun v (hv : Below w.heap.size w v) => farthest_c ta tc t s v hs hf hok (HP.out.on hv))
    have HO := hideH hok
    rw [h0] at HC ⊢
    unfold maxLen at hs
    clear h0 hP hf hok
    go_enter Try.func15, Try.ntmps15
    go_wp2_with fail
    refine HC.out.mono ?_
    rintro e w1 ⟨rfl, hw1⟩
    have H1 := hideH hw1
    clear hw1
    go_wp2_with fail
    refine (HFa.out _ H1.out).mono ?_
    rintro e w2 ⟨m, rfl, hfar, hw2⟩
    have H2 := hideH (bthen H1.out hw2)
    have HX := hideH (far_find hfar)
    have hlt := go_lt HO.out _ 0 _ HO.out.1 (far_at hfar)
    have hm := hfar.1
    clear hw2 hfar
    rw [HX.out] at HV
    generalize atN t s m = a at hlt HV
    by_cases hq : m < s.size
    · have hqi : (m : Int) < (s.size : Int) := by omega
      rw [if_pos hq] at HV
      go_wp2_with fail
      go_ret2
      exact ⟨by rw [HV.out] <;> rfl, H2.out⟩
    · have hqi : ¬ ((m : Int) < (s.size : Int)) := by omega
      rw [if_neg hq] at HV
      rcases HP.out.on H2.out with h0 | ⟨b, off, rfl, hcs⟩
      · omega
      obtain ⟨ea, ec, d0, d1, -⟩ := hcs a hlt
      clear hcs
      have hai : (a : Int) < (t.length : Int) := by omega
      go_wp2_with fail
      go_ret2
      exact ⟨by rw [HV.out] <;> rfl, H2.out⟩
  · have h1 := tchk_no hok
    have HV : Hid (fndR t s = 0) := by show _ = _; unfold fndR; rw [if_neg (by rw [h1]; decide)]
    rw [h1] at HC ⊢
    clear h1 hok hP hf
    go_enter Try.func15, Try.ntmps15
    go_wp2_with fail
    refine HC.out.mono ?_
    rintro e w1 ⟨rfl, hw1⟩
    have H1 := hideH hw1
    clear hw1
    go_wp2_with fail
    go_ret2
    exact ⟨by rw [HV.out] <;> rfl, H1.out⟩

/-- the longest one of the first k beginnings -/
def lgK (t : List Nd) (s : ByteArray) : Nat → Int × Nat
  | 0 => (-1, 0)
  | k + 1 => lgT (fun n => findT t (s.data.toList.take n)) k
theorem lgK_next {t : List Nd} {s : ByteArray} {k a : Nat} (h : go t 0 (s.data.toList.take k) = some a) : lgK t s (k + 1) = if (nod t a).wd = -1 then lgK t s k else ((nod t a).wd, k) := by
  have hf : findT t (s.data.toList.take k) = (nod t a).wd := by unfold findT; rw [h]
  cases k with
  | zero =>
    simp only [lgK, lgT]
    rw [hf]
    by_cases hq : (nod t a).wd = -1
    · rw [if_pos hq, hq]
    · rw [if_neg hq]
  | succ k =>
    simp only [lgK]
    rw [lgT]
    simp only [hf]
def longR (t : List Nd) (s : ByteArray) : Int × Nat := if tchk t = 0 then longT t s.data.toList else (0, 0)
theorem far_long {t : List Nd} {s : ByteArray} {m : Nat} (h : Far t s m) : longT t s.data.toList = lgK t s (m + 1) := by
  obtain ⟨h1, _, h2⟩ := h
  simp only [lgK]
  exact long_at (by rw [sz_len]; exact h1) (by rw [sz_len]; exact h2)
/-- what holds between two rounds of Longest: B, the boxes of t's, and of word and long -/
def LI (w : World) (B0 B : Nat) (ta : Option Addr) (tc : Nat) (t : List Nd) (s : ByteArray) (k : Nat) (W : World) : Prop :=
  Below w.heap.size w W ∧ (∃ x : Int × Nat, W.heap[B]? = some (.cells #[.int .i64 x.1] 3) ∧ W.heap[B + 1]? = some (.cells #[.int .i64 x.2] 3) ∧ x = lgK t s k) ∧ W.heap[B + 2]? = some (.cells #[.slice ta t.length tc] 23) ∧ W.heap[B + 3]? = some (.cells #[.string s] 9) ∧ W.heap[B0]? = some (.cells #[.slice ta t.length tc] 23)
theorem LI.on {w : World} {B0 B : Nat} {ta : Option Addr} {tc : Nat} {t : List Nd} {s : ByteArray} {k : Nat} {W W' : World} (h : LI w B0 B ta tc t s k W) (h0 : B0 < B + 4) (h00 : w.heap.size ≤ B + 4) (hb : Below (B + 4) W W') : LI w B0 B ta tc t s k W' := by
  obtain ⟨h1, ⟨x, h2, h3, h4⟩, h5, h6, h7⟩ := h
  exact ⟨h1.trans (hb.mono h00), ⟨x, (hb.block _ (by omega)).trans h2, (hb.block _ (by omega)).trans h3, h4⟩, (hb.block _ (by omega)).trans h5, (hb.block _ (by omega)).trans h6, (hb.block _ h0).trans h7⟩
set_option maxRecDepth 100000 in
set_option maxHeartbeats 4000000 in
theorem Longest_c (ta : Option Addr) (tc : Nat) (t : List Nd) (s : ByteArray) (w : World) (hs : s.size ≤ maxLen) (hf : fitT t) (hP : TrL w ta t) :
    Calls Try.prog 16 #[.slice ta t.length tc, .string s] w fun e w' => e = .returned (.tuple #[.int .i64 (longR t s).1, .int .i64 (longR t s).2, .int .i64 (tchk t)]) ∧ Below w.heap.size w w' := by
  have HP := hideH hP
  have HF := hideH hf
  have HS := hideH hs
  have HBx := hideH ((Below.refl _ w).alloc (Nat.le_refl _) (.cells #[.slice ta t.length tc] 23))
  have HXx := hideH (World.alloc_heap_new w (.cells #[.slice ta t.length tc] 23))
  have HC := hideH (TCheck_c ta tc t _ hf (hP.on HBx.out))
  unfold ckP at HC
  by_cases hok : okT t
  · have h0 := tchk_yes hok
    have HV : Hid (longR t s = longT t s.data.toList) := by show _ = _; unfold longR; rw [if_pos h0]
    have HO := hideH hok
    rw [h0] at HC ⊢
    clear h0 hP hf hok hs
    refine calls_of_wpG Try.func16 rfl ?_
    simp only [Try.ntmps16, List.size_toArray, List.length_cons, List.length_nil, Nat.reduceAdd, Nat.reduceSub, Array.replicate_succ, Array.replicate_zero, List.push_toArray, List.append_toArray, List.nil_append, List.cons_append]
    refine wpG_seq (wpG_plain ?_)
    go_wp2
    refine wpG_seq (wpG_plain ?_)
    go_wp2_with fail
    refine HC.out.mono ?_
    rintro e w1 ⟨rfl, hw1⟩
    have H1 := hideH (bthen HBx.out hw1)
    have X1 := hideH (heap_on HXx.out hw1)
    have x1 : w1.cell? ⟨w.heap.size, 0, none⟩ = some (.slice ta t.length tc) := by simp [World.cell?, X1.out]
    clear hw1 HBx HXx HC
    have hlt1 : w.heap.size < w1.heap.size := (Array.getElem?_eq_some_iff.1 X1.out).1
    go_wp2_with fail
    refine wpG_seq (wpG_plain ?_)
    go_wp2_with fail
    have x2 : ((w1.alloc (.cells #[.int .i64 (-1)] 3)).alloc (.cells #[.int .i64 0] 3)).cell? ⟨w.heap.size, 0, none⟩ = some (.slice ta t.length tc) := by
      rw [World.cell?_of_block ((Below.heap_alloc _ _ _ (by simp; omega)).trans (Below.heap_alloc _ _ _ (by omega)))]
      exact x1
    refine wpG_seq (wpG_seq (wpG_plain ?_))
    go_wp2_with (go_at_call 26; refine (along_c _ _ _ _ _).mono ?_; rintro e w2 ⟨rfl, rfl⟩)
    refine wpG_block ?_
    obtain ⟨W4, hW4⟩ : ∃ W4, W4 = (((w1.alloc (.cells #[.int .i64 (-1)] 3)).alloc (.cells #[.int .i64 0] 3)).alloc (.cells #[.slice ta t.length tc] 23)).alloc (.cells #[.string s] 9) := ⟨_, rfl⟩
    have hs4 : W4.heap.size = w1.heap.size + 4 := by rw [hW4]; simp
    have hb4 : Below w1.heap.size w1 W4 := by rw [hW4]; exact ((((Below.refl _ w1).alloc (Nat.le_refl _) _).alloc (by simp) _).alloc (by simp; omega) _).alloc (by simp; omega) _
    have hk4 := heap4 w1 (.cells #[.int .i64 (-1)] 3) (.cells #[.int .i64 0] 3) (.cells #[.slice ta t.length tc] 23) (.cells #[.string s] 9)
    rw [← hW4] at hk4
    have HI0 : Hid (LI w w.heap.size w1.heap.size ta tc t s 0 W4) := ⟨bthen H1.out hb4, ⟨(-1, 0), hk4.1, hk4.2.1, rfl⟩, hk4.2.2.1, hk4.2.2.2, heap_on X1.out hb4⟩
    simp only [← hW4]
    simp only [Nat.add_assoc, Nat.reduceAdd]
    clear hW4 hk4 hb4 x2 x1 X1
    obtain ⟨B, hB⟩ : ∃ B, B = w1.heap.size := ⟨_, rfl⟩
    rw [← hB] at hs4 HI0 hlt1
    simp only [← hB]
    clear hB H1
    refine rng_p Try.func16 9 29 #[.pointer (some ⟨B + 3, 0, none⟩), .pointer (some ⟨B + 2, 0, none⟩)] rfl (fun _ _ => by simp [go_sem]) rfl (fun k => (.int .i64 k, .int .i64 (atN t s k))) (fun k => k ≤ s.size ∧ (go t 0 (s.data.toList.take k)).isSome = true) (Far t s) (LI w w.heap.size B ta tc t s) ?hI HI0.out
      (fun k => { tmps := #[.slice ta t.length tc, .string s, .pointer (some ⟨w.heap.size, 0, none⟩), undef, .int .i64 0, .int .i64 0, .int .i64 0, .int .i64 0, .pointer (some ⟨B, 0, none⟩), .pointer (some ⟨B + 1, 0, none⟩), .int .i64 k, .int .i64 (atN t s k), .slice ta t.length tc, .int .i64 0, .int .i64 0, .bool false, undef, .slice ta t.length tc, .string s, .func (.func 29) #[] #[.pointer (some ⟨B + 3, 0, none⟩), .pointer (some ⟨B + 2, 0, none⟩)], .int .i64 k, .int .i64 (atN t s k), undef, undef, undef, undef, undef, undef, undef, undef, undef, undef, undef, undef, undef, undef], defers := [] })
      ?hit ?assign ?body ?done
    case hI =>
      intro k W W' h hb
      rw [hs4] at hb
      exact h.on (by omega) (by omega) hb
    case hit =>
      intro l J W1 h1 h2 h3 h4
      refine along1_c 8 l (B + 3) (B + 2) tc ta t s J HS.out HF.out HO.out h1 (fun k W h => ?_) (fun k W h h' => h3 k W h h') W1 h4
      obtain ⟨⟨h8, -, h5, h6, h7⟩, hl⟩ := h2 k W h
      exact ⟨⟨by simp [World.cell?, h6], by simp [World.cell?, h5], HP.out.on h8⟩, hl⟩
    case assign =>
      intro l k W K hk hK
      gi_wp2
      exact hK
    case body =>
      rintro l k W ⟨hk1, hk2⟩ ⟨h1, ⟨⟨x, y⟩, h2, h3, h4⟩, h5, h6, h7⟩
      have f0 : W.frozen? ⟨B, 0, none⟩ = false := by simp [World.frozen?, h2]
      have f1 : W.frozen? ⟨B + 1, 0, none⟩ = false := by simp [World.frozen?, h3]
      have c0 : W.cell? ⟨B, 0, none⟩ = some (.int .i64 x) := by simp [World.cell?, h2]
      have c1 : W.cell? ⟨B + 1, 0, none⟩ = some (.int .i64 (y : Nat)) := by simp [World.cell?, h3]
      have c2 : W.cell? ⟨w.heap.size, 0, none⟩ = some (.slice ta t.length tc) := by simp [World.cell?, h7]
      obtain ⟨a, ha⟩ := Option.isSome_iff_exists.1 hk2
      have hat := atN_of ha
      have hlt := go_lt HO.out _ 0 a HO.out.1 ha
      have HN := hideH (lgK_next ha)
      have H1 := hideH h1
      have H2 := hideH h2
      have H3 := hideH h3
      have H4 := hideH h4
      have H5 := hideH h5
      have H6 := hideH h6
      have H7 := hideH h7
      have hl := HF.out.len
      unfold maxLen at hl
      rw [hat]
      rcases HP.out.on h1 with h0 | ⟨b, off, hta, hcs⟩
      · omega
      obtain ⟨ea, ec, d0, d1, -⟩ := hcs a hlt
      have hai : (a : Int) < (t.length : Int) := by omega
      clear hcs h1 h2 h3 h4 h5 h6 h7 ha hat
      subst hta
      by_cases hq : (nod t a).wd = -1
      · rw [if_pos hq] at HN
        rw [hq] at d1
        clear hq
        gi_wp2
        show Kept _ W _ ∧ LI w w.heap.size B (some ⟨b, off, none⟩) tc t s (k + 1) _
        exact ⟨Kept.refl _ _, H1.out, ⟨(x, y), H2.out, H3.out, by rw [HN.out]; exact H4.out⟩, H5.out, H6.out, H7.out⟩
      · rw [if_neg hq] at HN
        have hqb : ((nod t a).wd != -1) = true := by rw [bne_iff_ne]; exact hq
        clear hq
        gi_wp2
        show Kept _ W _ ∧ LI w w.heap.size B (some ⟨b, off, none⟩) tc t s (k + 1) _
        have hbb : Below w.heap.size w ((W.setCell ⟨B, 0, none⟩ (.int .i64 (nod t a).wd)).setCell ⟨B + 1, 0, none⟩ (.int .i64 k)) := (H1.out.setCell (p := ⟨B, 0, none⟩) (by simp; omega) _).setCell (p := ⟨B + 1, 0, none⟩) (by simp; omega) _
        refine ⟨((Kept.refl _ W).set (by omega) _).set (by omega) _, hbb, ⟨((nod t a).wd, k), ?_, ?_, HN.out.symm⟩, ?_, ?_, ?_⟩
        · rw [setCell_far (by omega)]; exact setCell_one H2.out
        · exact setCell_one (by rw [setCell_far (by omega)]; exact H3.out)
        · rw [setCell_far (by omega), setCell_far (by omega)]; exact H5.out
        · rw [setCell_far (by omega), setCell_far (by omega)]; exact H6.out
        · rw [setCell_far (by omega), setCell_far (by omega)]; exact H7.out
    case done =>
      rintro Dk m W hDk ⟨h1, ⟨⟨x, y⟩, h2, h3, h4⟩, h5, h6, h7⟩ hT hk
      rw [hs4] at hDk
      have HL := hideH (far_long hT)
      rw [← h4] at HL
      show wpG _ _ _ _ _ _
      refine wpG_plain ?_
      have c0 : W.cell? ⟨B, 0, none⟩ = some (.int .i64 x) := by simp [World.cell?, h2]
      have c1 : W.cell? ⟨B + 1, 0, none⟩ = some (.int .i64 (y : Nat)) := by simp [World.cell?, h3]
      have H1 := hideH h1
      have HK := hideH hk
      clear h1 h2 h3 h4 h5 h6 h7 hk hT
      go_wp2_with fail
      go_quiet (fail)
      go_wp2_with fail
      refine mark_leaves (by simp) (B := w.heap.size) (by omega) (W := W.drewN nq) HK.out fun W' hw => ?_
      refine ⟨.tuple #[.int .i64 x, .int .i64 (y : Nat), .int .i64 0], ?_, by rw [HV.out, HL.out], (below_drewN H1.out nq).trans hw⟩
      simp [results, Try.results16, go_sem]
  · have h1 := tchk_no hok
    have HV : Hid (longR t s = (0, 0)) := by show _ = _; unfold longR; rw [if_neg (by rw [h1]; decide)]
    rw [h1] at HC ⊢
    clear h1 hok hP hf
    go_enter Try.func16, Try.ntmps16
    go_wp2_with fail
    refine HC.out.mono ?_
    rintro e w1 ⟨rfl, hw1⟩
    have H1 := hideH (bthen HBx.out hw1)
    clear hw1
    go_wp2_with fail
    go_ret3
    exact ⟨by rw [HV.out] <;> rfl, H1.out⟩
end Go.Proofs.Ythkdjklpegmnnaa.Tri
