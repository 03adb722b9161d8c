/- The statement 'for .. := range eras.Spans(..)' whose rounds let a row of turns grow in its place. -/
import Derived.Test.YtdffopkljomipaaGreatDoorDataAAll
namespace Go.Proofs.YtdffopkljomipaaGreatDoor
open Go Go.RowKit Go.Shelf
set_option linter.unusedVariables false

/-- a block that is no row of turns -/
abbrev notT (W : World) (b : Nat) : Prop := ∀ cs fr, W.heap[b]? ≠ some (.cells cs 41 fr)
theorem notT_era {W : World} {b : Nat} {cs : Array Value} {fr : Nat × Nat} (h : W.heap[b]? = some (.cells cs 50 fr)) : notT W b := fun cs' fr' e => by rw [h] at e; simp at e
theorem notT_loop {W : World} {b : Nat} {r : Loop} (h : W.heap[b]? = some (.loop r)) : notT W b := fun cs' fr' e => by rw [h] at e; simp at e
theorem notT_def {W : World} {b : Nat} {r : Option (List Deferred)} (h : W.heap[b]? = some (.deferred r)) : notT W b := fun cs' fr' e => by rw [h] at e; simp at e
structure KeptT (B : Nat) (W W' : World) : Prop where
  size : W.heap.size ≤ W'.heap.size
  same : ∀ b, B ≤ b → b < W.heap.size → notT W b → W'.heap[b]? = W.heap[b]?
def bpostT (B : Nat) (I : Nat → World → Prop) (Ix : Code → World → Prop) (Ip : List PanicEntry → World → Prop) (k : Nat) (W : World) : Exit → Act → World → Prop
  | .normal, _, W' => KeptT B W W' ∧ I (k + 1) W'
  | .ret, _, W' => KeptT B W W' ∧ Ix .ret W'
  | .exit id, _, W' => KeptT B W W' ∧ Ix (.exit id) W'
  | .panic ch, a', W' => a'.defers = [] ∧ KeptT B W W' ∧ Ip ch W'
  | _, _, _ => False
/-- nothing but loops' own records has turned -/
abbrev SameL (W W' : World) : Prop := ∀ b, b < W.heap.size → (∀ r, W.heap[b]? ≠ some (.loop r)) → W'.heap[b]? = W.heap[b]?
theorem sameL_alloc (W : World) (o : Obj) : SameL W (W.alloc o) := fun b hb _ => Below.heap_alloc _ _ _ hb
theorem sameL_put {W : World} {l : Nat} {r : Loop} (h : W.heap[l]? = some (.loop r)) (o : Obj) : SameL W (W.putObj l o) := fun b hb hn => World.putObj_heap_other (fun e => hn r (by rw [e]; exact h))
/-- the iterator: whatever is true ahead of each round -/
theorem spansT1_c (n l cb ne ec B : Nat) (ea : Option Addr) (es : Nat → Er) (J : Nat → World → Prop) (Jx : World → Prop) (Jp : List PanicEntry → World → Prop) (hne : ne ≤ maxLen)
    (hJa : ∀ k W o, J k W → J k (W.alloc o)) (hrd : ∀ k W, J k W → W.cell? ⟨cb, 0, none⟩ = some (.slice ea ne ec) ∧ ERow W ea ne es ∧ l < W.heap.size ∧ B ≤ W.heap.size)
    (hY : ∀ k W, J k W → k < ne → YieldAt Fence.wide (n - 1) Tryz.prog l #[.int .i64 (frm es k), (es k).v] W fun e W' =>
      (e = .returned (.bool true) ∧ J (k + 1) W' ∧ ∀ b, B ≤ b → b < W.heap.size → b ≠ l → notT W b → W'.heap[b]? = W.heap[b]?) ∨ (e = .returned (.bool false) ∧ Jx W') ∨ ∃ ch, e = .panicked ch ∧ Jp ch W')
    (W : World) (h0 : J 0 W) :
    CallsIn Fence.wide n Tryz.prog 31 #[.func (.yield l) #[] #[], .pointer (some ⟨cb, 0, none⟩)] W fun e W' => (∃ v, e = .returned v ∧ (J ne W' ∨ Jx W')) ∨ ∃ ch, e = .panicked ch ∧ Jp ch W' := by
  unfold maxLen at hne
  have hc0 := (hrd 0 W h0).1
  refine callsIn_of_wp Tryz.func31 rfl trivial ?_ rfl
  simp only [Tryz.ntmps31, List.size_toArray, List.length_cons, List.length_nil, Nat.reduceAdd, Nat.reduceSub, Array.replicate_succ, Array.replicate_zero, List.push_toArray, List.append_toArray, List.nil_append, List.cons_append]
  have HJa := hideH hJa
  have Hrd := hideH hrd
  have HY := hideH hY
  have H0 := hideH h0
  clear hJa hrd hY h0
  gi_wp2
  clear hc0
  gi_loopw [3, 8] (fun x3 x8 wr => ∃ k : Nat, k ≤ ne ∧ x3 = .int .i64 (frm es k) ∧ x8 = .int .i64 k ∧ Hid (J k wr)) (fun _ x8 _ => ne - (intOf x8).toNat)
  case atStart => exact ⟨0, Nat.zero_le _, rfl, rfl, H0⟩
  case round =>
    obtain ⟨k, hk, rfl, rfl, HJ⟩ := hrel
    by_cases hlt : k < ne
    · obtain ⟨_, hrow, hl, hB⟩ := Hrd.out k wr HJ.out
      rcases hrow with h0 | ⟨b, off, hsa, hcs⟩
      · omega
      obtain ⟨c0, c1, c2, c3, c4⟩ := hcs k hlt
      clear hcs
      obtain ⟨fn, tmps, assign, body, hy, hR⟩ := HY.out k _ (HJa.out k wr (.cells (es k).cs 50) HJ.out) hlt
      have HR := hideH hR
      clear hR
      gi_wp2
      refine ⟨fun h => by simp [Fence.wide] at h, ?_⟩
      refine HR.out.mono ?_
      rintro e W3 (⟨rfl, hJ3, hk3⟩ | ⟨rfl, hx3⟩ | ⟨ch, rfl, hp3⟩)
      · have hu : W3.cell? ⟨wr.heap.size, 4, none⟩ = some (.int .i64 (es k).un) := by
          have := (ebox_new wr (es k)).same (hk3 wr.heap.size hB (by simp) (by omega) (notT_era (World.alloc_heap_new wr _)))
          simpa using this.2.2.2.2
        have HJ3 := hideH hJ3
        clear hJ3 hk3 hy c0 c1 c2 c3 c4
        gi_wp2
        try simp only [← hsa]
        go_roundw
        case rel => exact ⟨k + 1, by omega, rfl, by go_num, HJ3⟩
        case measure => simp [intOf]; omega
      · have HX := hideH hx3
        clear hx3
        gi_wp2
        refine bodyPost_ret (results_none rfl _ _ _) rfl ?_
        exact .inl ⟨_, rfl, .inr HX.out⟩
      · exact ⟨rfl, .inr ⟨ch, rfl, hp3⟩⟩
    · obtain rfl : k = ne := by omega
      gi_wp2
      go_end0
      exact .inl ⟨_, rfl, .inl HJ.out⟩
theorem spansT_p {g : Operand} {ps : Array Tmp} {assign body : Code} {Q : Exit → Act → World → Prop} {a : Act} {w : World} {f0 : FuncId} {fn0 : Func} (hf0 : Tryz.prog.funcs[f0]? = some fn0) (n cb ne ec : Nat) (ea : Option Addr) (es : Nat → Er)
    (hg : a.eval g = .func (.func 31) #[] #[.pointer (some ⟨cb, 0, none⟩)]) (hps : ps.size = 2) (hne : ne ≤ maxLen)
    (I : Nat → World → Prop) (Ix : Code → World → Prop) (Ip : List PanicEntry → World → Prop)
    (hI : ∀ k W W', I k W → Below w.heap.size W W' → SameL W W' → I k W') (hIx : ∀ c W W', Ix c W → Below w.heap.size W W' → SameL W W' → Ix c W')
    (hrd : ∀ k W, I k W → W.cell? ⟨cb, 0, none⟩ = some (.slice ea ne ec) ∧ ERow W ea ne es) (h0 : I 0 w) (a₁ : Nat → Nat → Act)
    (hassign : ∀ (l k : Nat) (W : World) (K : Act → World → Prop), k < ne → K (a₁ k W.heap.size) (W.alloc (.cells (es k).cs 50)) →
      assign.wpIn (Fence.wide.inRound l) (n - 1 - 1) Tryz.prog (Exit.then K (fun _ _ _ => False)) { tmps := (ps.zip #[.int .i64 (frm es k), (es k).v]).foldl (fun t (p, v) => t.setIfInBounds p v) a.tmps, defers := [] } W)
    (hbody : ∀ (l k hb : Nat) (W : World), k < ne → I k W → w.heap.size ≤ hb → hb < W.heap.size → EAt W hb 0 (es k) → body.wpIn (Fence.wide.inRound l) (n - 1 - 1) Tryz.prog (bpostT w.heap.size I Ix Ip k W) (a₁ k hb) W)
    (hdone : ∀ (D : Nat) (W : World), w.heap.size ≤ D → I ne W → W.heap[D]? = some (.deferred (some [])) → Q .normal { a with defers := mark D :: a.defers } W)
    (hstop : ∀ (D : Nat) (c : Code) (W : World), w.heap.size ≤ D → Ix c W → W.heap[D]? = some (.deferred (some [])) → wpG Tryz.prog f0 c Q { a with defers := mark D :: a.defers } W)
    (hpan : ∀ (D : Nat) (ch : List PanicEntry) (W : World), w.heap.size ≤ D → Ip ch W → W.heap[D]? = some (.deferred (some [])) → Q (.panic ch) { a with defers := mark D :: a.defers } W) :
    wpG Tryz.prog f0 (Code.rangeFunc g ps assign body) Q a w := by
  obtain ⟨rec, hrec⟩ : ∃ rec : LoopState → Option Code → Loop, rec = fun st pe => { state := st, pending := pe, fn := f0, tmps := a.tmps, params := ps, assign, body, defers := w.heap.size } := ⟨_, rfl⟩
  obtain ⟨W1, hW1⟩ : ∃ W1, (w.alloc (.deferred (some []))).alloc (.loop (rec .ready none)) = W1 := ⟨_, rfl⟩
  have hL1 : W1.heap[w.heap.size + 1]? = some (.loop (rec .ready none)) := by
    rw [← hW1]; have := World.alloc_heap_new (w.alloc (.deferred (some []))) (.loop (rec .ready none)); rwa [World.size_alloc] at this
  have hK1 : W1.heap[w.heap.size]? = some (.deferred (some [])) := by
    rw [← hW1]; exact (Below.heap_alloc _ _ _ (by simp)).trans (World.alloc_heap_new w _)
  have hb1 : Below w.heap.size w W1 := by
    rw [← hW1]; exact ((Below.refl _ w).alloc (Nat.le_refl _) _).alloc (by simp) _
  have hs1 : SameL w W1 := by
    rw [← hW1]
    intro b hb hn
    exact (Below.heap_alloc _ _ _ (by simp; omega)).trans (Below.heap_alloc _ _ _ hb)
  have h1 : I 0 W1 := hI 0 w W1 h0 hb1 hs1
  -- the iterator, at the caller's word with the two blocks beside it
  have hit := spansT1_c (n - 1) (w.heap.size + 1) cb ne ec w.heap.size ea es
    (fun k W => I k W ∧ W.heap[w.heap.size + 1]? = some (.loop (rec .ready none)) ∧ W.heap[w.heap.size]? = some (.deferred (some [])))
    (fun W => ∃ c, Ix c W ∧ W.heap[w.heap.size + 1]? = some (.loop (rec .done (some c))) ∧ W.heap[w.heap.size]? = some (.deferred (some [])))
    (fun ch W => Ip ch W ∧ W.heap[w.heap.size]? = some (.deferred (some []))) hne ?ha ?hr ?hy W1 ⟨h1, hL1, hK1⟩
  case ha =>
    rintro k W o ⟨hi, hl, hk⟩
    have l1 := (Array.getElem?_eq_some_iff.1 hl).1
    exact ⟨hI k W _ hi (low_alloc (by omega) o) (sameL_alloc W o), (Below.heap_alloc _ _ _ l1).trans hl, (Below.heap_alloc _ _ _ (by omega)).trans hk⟩
  case hr =>
    rintro k W ⟨hi, hl, hk⟩
    have l1 := (Array.getElem?_eq_some_iff.1 hl).1
    exact ⟨(hrd k W hi).1, (hrd k W hi).2, l1, by omega⟩
  case hy =>
    rintro k W ⟨hi, hl, hk⟩ hlt
    have l1 := (Array.getElem?_eq_some_iff.1 hl).1
    have hy := run_yield (P := Tryz.prog) (args := #[.int .i64 (frm es k), (es k).v]) hl (by rw [hrec]; simpa using hps.symm)
    rw [hrec] at hy
    have hlA : (W.alloc (.cells (es k).cs 50)).heap[w.heap.size + 1]? = some (.loop (rec .ready none)) := (Below.heap_alloc _ _ _ l1).trans hl
    have hkA : (W.alloc (.cells (es k).cs 50)).heap[w.heap.size]? = some (.deferred (some [])) := (Below.heap_alloc _ _ _ (by omega)).trans hk
    refine ⟨f0, _, assign, body, hy, round_p trivial hf0 (hassign _ k W _ hlt ⟨_, run_beginRound hlA (by rw [hrec]), ?_⟩)⟩
    obtain ⟨W2, hW2⟩ : ∃ W2, (W.alloc (.cells (es k).cs 50)).putObj (w.heap.size + 1) (.loop { rec .ready none with state := .busy }) = W2 := ⟨_, rfl⟩
    rw [hW2]
    have hs2 : W2.heap.size = W.heap.size + 1 := by rw [← hW2]; simp
    have hl2 : W2.heap[w.heap.size + 1]? = some (.loop { rec .ready none with state := .busy }) := by rw [← hW2]; exact World.putObj_heap_same (by simp; omega)
    have ho2 : ∀ b, b ≠ w.heap.size + 1 → W2.heap[b]? = (W.alloc (.cells (es k).cs 50)).heap[b]? := fun b hb => by rw [← hW2]; exact World.putObj_heap_other hb
    have hk2 : W2.heap[w.heap.size]? = some (.deferred (some [])) := (ho2 _ (by omega)).trans hkA
    have hi2 : I k W2 := by
      refine hI k _ W2 (hI k W _ hi (low_alloc (by omega) (.cells (es k).cs 50)) (sameL_alloc W _)) ?_ ?_
      · rw [← hW2]; exact low_put _ (by omega) hlA
      · rw [← hW2]; exact sameL_put hlA _
    have he2 : EAt W2 W.heap.size 0 (es k) := (ebox_new W (es k)).same (ho2 _ (by omega))
    have hw2 : ∀ b, w.heap.size ≤ b → b < W.heap.size → b ≠ w.heap.size + 1 → W2.heap[b]? = W.heap[b]? := fun b _ hb hne => (ho2 b hne).trans (Below.heap_alloc _ _ _ hb)
    refine wpIn_mono (hbody (w.heap.size + 1) k W.heap.size W2 hlt hi2 (by omega) (by omega) he2) ?_
    have fin : ∀ (jump : Option Code) (W3 : World), KeptT w.heap.size W2 W3 → ∃ W4, (Instr.endRound (w.heap.size + 1) jump).run Tryz.prog W3 = .ok (.bool jump.isNone) W4 ∧ (Below w.heap.size W3 W4 ∧ SameL W3 W4) ∧
        W4.heap[w.heap.size + 1]? = some (.loop (rec (if jump.isNone then .ready else .done) jump)) ∧ W4.heap[w.heap.size]? = some (.deferred (some [])) ∧ (∀ b, w.heap.size ≤ b → b < W.heap.size → b ≠ w.heap.size + 1 → notT W b → W4.heap[b]? = W.heap[b]?) := by
      intro jump W3 hk3
      have hl3 : W3.heap[w.heap.size + 1]? = some (.loop { rec .ready none with state := .busy }) := (hk3.same _ (by omega) (by omega) (notT_loop hl2)).trans hl2
      have hd3 : W3.heap[w.heap.size]? = some (.deferred (some [])) := (hk3.same _ (by omega) (by omega) (notT_def hk2)).trans hk2
      have hr := run_endRound (P := Tryz.prog) jump hl3
      rw [hrec] at hr
      refine ⟨_, hr, ⟨low_put _ (by omega) hl3, sameL_put hl3 _⟩, ?_, (World.putObj_heap_other (by omega)).trans hd3, fun b h1 h2 h3 h4 => (World.putObj_heap_other h3).trans ((hk3.same b h1 (by omega) (fun cs fr e => h4 cs fr ((hw2 b h1 h2 h3).symm.trans e))).trans (hw2 b h1 h2 h3))⟩
      rw [hrec]; exact World.putObj_heap_same (Array.getElem?_eq_some_iff.1 hl3).1
    rintro e a3 W3 hp
    cases e
    case normal =>
      obtain ⟨hk3, hi3⟩ := hp
      obtain ⟨W4, hr, hb, hl4, hd4, hs4⟩ := fin none W3 hk3
      exact ⟨_, _, hr, .inl ⟨rfl, ⟨hI _ _ _ hi3 hb.1 hb.2, hl4, hd4⟩, hs4⟩⟩
    case ret =>
      obtain ⟨hk3, hi3⟩ := hp
      obtain ⟨W4, hr, hb, hl4, hd4, hs4⟩ := fin (some .ret) W3 hk3
      exact ⟨_, _, hr, .inr (.inl ⟨rfl, .ret, hIx _ _ _ hi3 hb.1 hb.2, hl4, hd4⟩)⟩
    case exit id =>
      obtain ⟨hk3, hi3⟩ := hp
      obtain ⟨W4, hr, hb, hl4, hd4, hs4⟩ := fin (some (.exit id)) W3 hk3
      exact ⟨_, _, hr, .inr (.inl ⟨rfl, .exit id, hIx _ _ _ hi3 hb.1 hb.2, hl4, hd4⟩)⟩
    case panic ch =>
      obtain ⟨hd, hk3, hi3⟩ := hp
      exact ⟨hd, .inr (.inr ⟨ch, rfl, hi3, (hk3.same _ (by omega) (by omega) (notT_def hk2)).trans hk2⟩)⟩
    all_goals exact hp.elim
  refine wpG_range (l := w.heap.size + 1) (mk := [mark w.heap.size]) (w₁ := W1) (w₁' := W1) (w₂ := W1) (d := { target := .fn (.func 31) #[.pointer (some ⟨cb, 0, none⟩)], args := #[.func (.yield (w.heap.size + 1)) #[] #[]] }) (gf := 31)
    (args := #[.func (.yield (w.heap.size + 1)) #[] #[], .pointer (some ⟨cb, 0, none⟩)]) ?_ ?_ ?_ (callsIn_wide.1 hit) ?_ ?_ ?_
  · rw [← hW1, hrec]; exact run_enterLoop_outer _ _ _ _ _
  · simp only [resolve, hg]
    simp [go_sem]
  · simp [invoke, go_sem]
  · rintro v W3 (⟨v', hv, (⟨hi, hl, hk⟩ | ⟨c, hi, hl, hk⟩)⟩ | ⟨ch, hc, _⟩)
    · refine ⟨none, _, by have := run_endLoop (P := Tryz.prog) hl (by rw [hrec]; simp); rw [hrec] at this; exact this, ?_⟩
      exact hdone _ _ (Nat.le_refl _) (hI _ _ _ hi (low_put _ (by omega) hl) (sameL_put hl _)) ((World.putObj_heap_other (by omega)).trans hk)
    · refine ⟨some c, _, by have := run_endLoop (P := Tryz.prog) hl (by rw [hrec]; simp); rw [hrec] at this; exact this, ?_⟩
      exact hstop _ c _ (Nat.le_refl _) (hIx _ _ _ hi (low_put _ (by omega) hl) (sameL_put hl _)) ((World.putObj_heap_other (by omega)).trans hk)
    · cases hc
  · rintro ch W3 (⟨v', hv, _⟩ | ⟨ch', hc, hi, hk⟩)
    · cases hv
    · cases hc
      exact hpan _ _ _ (Nat.le_refl _) hi hk
  · rintro W3 (⟨v', hv, _⟩ | ⟨ch', hc, _⟩)
    · cases hv
    · cases hc

end Go.Proofs.YtdffopkljomipaaGreatDoor
