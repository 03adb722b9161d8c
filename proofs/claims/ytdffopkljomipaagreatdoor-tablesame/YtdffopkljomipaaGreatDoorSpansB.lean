/- The statement 'for .. := range eras.Spans(..)': its rounds may go on, break, return, or panic. And what a function with such loops owes where it is left. -/
import Derived.Test.YtdffopkljomipaaGreatDoorSpans
import Derived.Test.YtdffopkljomipaaGreatDoorRg
namespace Go.Proofs.YtdffopkljomipaaGreatDoor
open Go Go.RowKit Go.Shelf
set_option linter.unusedVariables false

/-- what a round's body owes -/
def bpost (B : Nat) (I : Nat → World → Prop) (Ix : Code → World → Prop) (Ip : List PanicEntry → World → Prop) (k : Nat) (W : World) : Exit → Act → World → Prop
  | .normal, _, W' => Kept B W W' ∧ I (k + 1) W'
  | .ret, _, W' => Kept B W W' ∧ Ix .ret W'
  | .exit id, _, W' => Kept B W W' ∧ Ix (.exit id) W'
  | .panic ch, a', W' => a'.defers = [] ∧ Kept B W W' ∧ Ip ch W'
  | _, _, _ => False
abbrev mark (D : Nat) : Deferred := { target := .collected D, args := #[] }
theorem low_put {B l : Nat} {W : World} {o : Obj} (o' : Obj) (hl : B ≤ l) (h : W.heap[l]? = some o) : Below B W (W.putObj l o') :=
  (Below.refl B W).grown (grownBy_putObj' W l o') (by have := (Array.getElem?_eq_some_iff.1 h).1; omega) (fun k e => by cases e; exact hl)
theorem low_alloc {B : Nat} {W : World} (hB : B ≤ W.heap.size) (o : Obj) : Below B W (W.alloc o) := (Below.refl B W).alloc hB o

theorem spans_p {g : Operand} {ps : Array Tmp} {assign body : Code} {Q : Exit → Act → World → Prop} {a : Act} {w : World} {f0 : FuncId} {fn0 : Func} (hf0 : Tryz.prog.funcs[f0]? = some fn0) (n cb ne ec : Nat) (ea : Option Addr) (es : Nat → Er)
    (hg : a.eval g = .func (.func 31) #[] #[.pointer (some ⟨cb, 0, none⟩)]) (hps : ps.size = 2) (hne : ne ≤ maxLen)
    (I : Nat → World → Prop) (Ix : Code → World → Prop) (Ip : List PanicEntry → World → Prop)
    (hI : ∀ k W W', I k W → Below w.heap.size W W' → I k W') (hIx : ∀ c W W', Ix c W → Below w.heap.size W W' → Ix c W')
    (hrd : ∀ k W, I k W → W.cell? ⟨cb, 0, none⟩ = some (.slice ea ne ec) ∧ ERow W ea ne es) (h0 : I 0 w) (a₁ : Nat → Nat → Act)
    (hassign : ∀ (l k : Nat) (W : World) (K : Act → World → Prop), k < ne → K (a₁ k W.heap.size) (W.alloc (.cells (es k).cs 50)) →
      assign.wpIn (Fence.wide.inRound l) (n - 1 - 1) Tryz.prog (Exit.then K (fun _ _ _ => False)) { tmps := (ps.zip #[.int .i64 (frm es k), (es k).v]).foldl (fun t (p, v) => t.setIfInBounds p v) a.tmps, defers := [] } W)
    (hbody : ∀ (l k hb : Nat) (W : World), k < ne → I k W → w.heap.size ≤ hb → hb < W.heap.size → EAt W hb 0 (es k) → body.wpIn (Fence.wide.inRound l) (n - 1 - 1) Tryz.prog (bpost w.heap.size I Ix Ip k W) (a₁ k hb) W)
    (hdone : ∀ (D : Nat) (W : World), w.heap.size ≤ D → I ne W → W.heap[D]? = some (.deferred (some [])) → Q .normal { a with defers := mark D :: a.defers } W)
    (hstop : ∀ (D : Nat) (c : Code) (W : World), w.heap.size ≤ D → Ix c W → W.heap[D]? = some (.deferred (some [])) → wpG Tryz.prog f0 c Q { a with defers := mark D :: a.defers } W)
    (hpan : ∀ (D : Nat) (ch : List PanicEntry) (W : World), w.heap.size ≤ D → Ip ch W → W.heap[D]? = some (.deferred (some [])) → Q (.panic ch) { a with defers := mark D :: a.defers } W) :
    wpG Tryz.prog f0 (Code.rangeFunc g ps assign body) Q a w := by
  obtain ⟨rec, hrec⟩ : ∃ rec : LoopState → Option Code → Loop, rec = fun st pe => { state := st, pending := pe, fn := f0, tmps := a.tmps, params := ps, assign, body, defers := w.heap.size } := ⟨_, rfl⟩
  obtain ⟨W1, hW1⟩ : ∃ W1, (w.alloc (.deferred (some []))).alloc (.loop (rec .ready none)) = W1 := ⟨_, rfl⟩
  have hL1 : W1.heap[w.heap.size + 1]? = some (.loop (rec .ready none)) := by
    rw [← hW1]; have := World.alloc_heap_new (w.alloc (.deferred (some []))) (.loop (rec .ready none)); rwa [World.size_alloc] at this
  have hK1 : W1.heap[w.heap.size]? = some (.deferred (some [])) := by
    rw [← hW1]; exact (Below.heap_alloc _ _ _ (by simp)).trans (World.alloc_heap_new w _)
  have hb1 : Below w.heap.size w W1 := by
    rw [← hW1]; exact ((Below.refl _ w).alloc (Nat.le_refl _) _).alloc (by simp) _
  have h1 : I 0 W1 := hI 0 w W1 h0 hb1
  -- the iterator, at the caller's word with the two blocks beside it
  have hit := spans1_c (n - 1) (w.heap.size + 1) cb ne ec w.heap.size ea es
    (fun k W => I k W ∧ W.heap[w.heap.size + 1]? = some (.loop (rec .ready none)) ∧ W.heap[w.heap.size]? = some (.deferred (some [])))
    (fun W => ∃ c, Ix c W ∧ W.heap[w.heap.size + 1]? = some (.loop (rec .done (some c))) ∧ W.heap[w.heap.size]? = some (.deferred (some [])))
    (fun ch W => Ip ch W ∧ W.heap[w.heap.size]? = some (.deferred (some []))) hne ?ha ?hr ?hy W1 ⟨h1, hL1, hK1⟩
  case ha =>
    rintro k W o ⟨hi, hl, hk⟩
    have l1 := (Array.getElem?_eq_some_iff.1 hl).1
    exact ⟨hI k W _ hi (low_alloc (by omega) o), (Below.heap_alloc _ _ _ l1).trans hl, (Below.heap_alloc _ _ _ (by omega)).trans hk⟩
  case hr =>
    rintro k W ⟨hi, hl, hk⟩
    have l1 := (Array.getElem?_eq_some_iff.1 hl).1
    exact ⟨(hrd k W hi).1, (hrd k W hi).2, l1, by omega⟩
  case hy =>
    rintro k W ⟨hi, hl, hk⟩ hlt
    have l1 := (Array.getElem?_eq_some_iff.1 hl).1
    have hy := run_yield (P := Tryz.prog) (args := #[.int .i64 (frm es k), (es k).v]) hl (by rw [hrec]; simpa using hps.symm)
    rw [hrec] at hy
    have hlA : (W.alloc (.cells (es k).cs 50)).heap[w.heap.size + 1]? = some (.loop (rec .ready none)) := (Below.heap_alloc _ _ _ l1).trans hl
    have hkA : (W.alloc (.cells (es k).cs 50)).heap[w.heap.size]? = some (.deferred (some [])) := (Below.heap_alloc _ _ _ (by omega)).trans hk
    refine ⟨f0, _, assign, body, hy, round_p trivial hf0 (hassign _ k W _ hlt ⟨_, run_beginRound hlA (by rw [hrec]), ?_⟩)⟩
    obtain ⟨W2, hW2⟩ : ∃ W2, (W.alloc (.cells (es k).cs 50)).putObj (w.heap.size + 1) (.loop { rec .ready none with state := .busy }) = W2 := ⟨_, rfl⟩
    rw [hW2]
    have hs2 : W2.heap.size = W.heap.size + 1 := by rw [← hW2]; simp
    have hl2 : W2.heap[w.heap.size + 1]? = some (.loop { rec .ready none with state := .busy }) := by rw [← hW2]; exact World.putObj_heap_same (by simp; omega)
    have ho2 : ∀ b, b ≠ w.heap.size + 1 → W2.heap[b]? = (W.alloc (.cells (es k).cs 50)).heap[b]? := fun b hb => by rw [← hW2]; exact World.putObj_heap_other hb
    have hk2 : W2.heap[w.heap.size]? = some (.deferred (some [])) := (ho2 _ (by omega)).trans hkA
    have hi2 : I k W2 := by
      refine hI k _ W2 (hI k W _ hi (low_alloc (by omega) (.cells (es k).cs 50))) ?_
      rw [← hW2]; exact low_put _ (by omega) hlA
    have he2 : EAt W2 W.heap.size 0 (es k) := (ebox_new W (es k)).same (ho2 _ (by omega))
    have hw2 : ∀ b, w.heap.size ≤ b → b < W.heap.size → b ≠ w.heap.size + 1 → W2.heap[b]? = W.heap[b]? := fun b _ hb hne => (ho2 b hne).trans (Below.heap_alloc _ _ _ hb)
    refine wpIn_mono (hbody (w.heap.size + 1) k W.heap.size W2 hlt hi2 (by omega) (by omega) he2) ?_
    have fin : ∀ (jump : Option Code) (W3 : World), Kept w.heap.size W2 W3 → ∃ W4, (Instr.endRound (w.heap.size + 1) jump).run Tryz.prog W3 = .ok (.bool jump.isNone) W4 ∧ Below w.heap.size W3 W4 ∧
        W4.heap[w.heap.size + 1]? = some (.loop (rec (if jump.isNone then .ready else .done) jump)) ∧ W4.heap[w.heap.size]? = some (.deferred (some [])) ∧ (∀ b, w.heap.size ≤ b → b < W.heap.size → b ≠ w.heap.size + 1 → W4.heap[b]? = W.heap[b]?) := by
      intro jump W3 hk3
      have hl3 : W3.heap[w.heap.size + 1]? = some (.loop { rec .ready none with state := .busy }) := (hk3.same _ (by omega) (by omega)).trans hl2
      have hd3 : W3.heap[w.heap.size]? = some (.deferred (some [])) := (hk3.same _ (by omega) (by omega)).trans hk2
      have hr := run_endRound (P := Tryz.prog) jump hl3
      rw [hrec] at hr
      refine ⟨_, hr, low_put _ (by omega) hl3, ?_, (World.putObj_heap_other (by omega)).trans hd3, fun b h1 h2 h3 => (World.putObj_heap_other h3).trans ((hk3.same b h1 (by omega)).trans (hw2 b h1 h2 h3))⟩
      rw [hrec]; exact World.putObj_heap_same (Array.getElem?_eq_some_iff.1 hl3).1
    rintro e a3 W3 hp
    cases e
    case normal =>
      obtain ⟨hk3, hi3⟩ := hp
      obtain ⟨W4, hr, hb, hl4, hd4, hs4⟩ := fin none W3 hk3
      exact ⟨_, _, hr, .inl ⟨rfl, ⟨hI _ _ _ hi3 hb, hl4, hd4⟩, hs4⟩⟩
    case ret =>
      obtain ⟨hk3, hi3⟩ := hp
      obtain ⟨W4, hr, hb, hl4, hd4, hs4⟩ := fin (some .ret) W3 hk3
      exact ⟨_, _, hr, .inr (.inl ⟨rfl, .ret, hIx _ _ _ hi3 hb, hl4, hd4⟩)⟩
    case exit id =>
      obtain ⟨hk3, hi3⟩ := hp
      obtain ⟨W4, hr, hb, hl4, hd4, hs4⟩ := fin (some (.exit id)) W3 hk3
      exact ⟨_, _, hr, .inr (.inl ⟨rfl, .exit id, hIx _ _ _ hi3 hb, hl4, hd4⟩)⟩
    case panic ch =>
      obtain ⟨hd, hk3, hi3⟩ := hp
      exact ⟨hd, .inr (.inr ⟨ch, rfl, hi3, (hk3.same _ (by omega) (by omega)).trans hk2⟩)⟩
    all_goals exact hp.elim
  refine wpG_range (l := w.heap.size + 1) (mk := [mark w.heap.size]) (w₁ := W1) (w₁' := W1) (w₂ := W1) (d := { target := .fn (.func 31) #[.pointer (some ⟨cb, 0, none⟩)], args := #[.func (.yield (w.heap.size + 1)) #[] #[]] }) (gf := 31)
    (args := #[.func (.yield (w.heap.size + 1)) #[] #[], .pointer (some ⟨cb, 0, none⟩)]) ?_ ?_ ?_ (callsIn_wide.1 hit) ?_ ?_ ?_
  · rw [← hW1, hrec]; exact run_enterLoop_outer _ _ _ _ _
  · simp only [resolve, hg]
    simp [go_sem]
  · simp [invoke, go_sem]
  · rintro v W3 (⟨v', hv, (⟨hi, hl, hk⟩ | ⟨c, hi, hl, hk⟩)⟩ | ⟨ch, hc, _⟩)
    · refine ⟨none, _, by have := run_endLoop (P := Tryz.prog) hl (by rw [hrec]; simp); rw [hrec] at this; exact this, ?_⟩
      exact hdone _ _ (Nat.le_refl _) (hI _ _ _ hi (low_put _ (by omega) hl)) ((World.putObj_heap_other (by omega)).trans hk)
    · refine ⟨some c, _, by have := run_endLoop (P := Tryz.prog) hl (by rw [hrec]; simp); rw [hrec] at this; exact this, ?_⟩
      exact hstop _ c _ (Nat.le_refl _) (hIx _ _ _ hi (low_put _ (by omega) hl)) ((World.putObj_heap_other (by omega)).trans hk)
    · cases hc
  · rintro ch W3 (⟨v', hv, _⟩ | ⟨ch', hc, hi, hk⟩)
    · cases hv
    · cases hc
      exact hpan _ _ _ (Nat.le_refl _) hi hk
  · rintro W3 (⟨v', hv, _⟩ | ⟨ch', hc, _⟩)
    · cases hv
    · cases hc

theorem wpG_plain {P : Program} {f : FuncId} {c : Code} {Q : Exit → Act → World → Prop} {a : Act} {w : World} (h : c.wp P Q a w) : wpG P f c Q a w := wpG_of (n := 0) (wpIn_wide.2 h)
/-- the marks that loops over functions have left, below hi -/
def Marks (B : Nat) : Nat → List Deferred → World → Prop
  | _, [], _ => True
  | hi, d :: ds, W => ∃ D, d = mark D ∧ B ≤ D ∧ D < hi ∧ W.heap[D]? = some (.deferred (some [])) ∧ Marks B D ds W
theorem Marks.on {B : Nat} {W W' : World} : ∀ {ds : List Deferred} {hi : Nat}, Marks B hi ds W → Below hi W W' → Marks B hi ds W'
  | [], _, _, _ => trivial
  | d :: ds, hi, ⟨D, h1, h2, h3, h4, h5⟩, hb => ⟨D, h1, h2, h3, (hb.block D h3).trans h4, Marks.on h5 (hb.mono (by omega))⟩
theorem Marks.up {B : Nat} {W : World} {ds : List Deferred} {hi hi' : Nat} (h : Marks B hi ds W) (hh : hi ≤ hi') : Marks B hi' ds W := by
  cases ds with
  | nil => trivial
  | cons d ds => obtain ⟨D, h1, h2, h3, h4, h5⟩ := h; exact ⟨D, h1, h2, by omega, h4, h5⟩
theorem Marks.leaves {B : Nat} {F : Fence} {n : Nat} {P : Program} {fn : Func} {tmps : Array Value} {R : Ending → World → Prop} {u : FrameMode} (hu : u ≠ .run) :
    ∀ {ds : List Deferred} {hi : Nat} {W : World}, Marks B hi ds W → (∀ W', Below B W W' → LeavesInM F n P fn tmps R [] u W') → LeavesInM F n P fn tmps R ds u W
  | [], _, W, _, h => h W (Below.refl _ _)
  | d :: ds, hi, W, ⟨D, h1, h2, h3, h4, h5⟩, h => by
    subst h1
    have hb : Below D W (W.putObj D (.deferred none)) := low_put _ (Nat.le_refl _) h4
    exact ⟨hu, .inl ⟨D, _, rfl, run_takeDeferred h4, Marks.leaves hu (h5.on hb) fun W' hw => h W' ((hb.mono h2).trans hw)⟩⟩
end Go.Proofs.YtdffopkljomipaaGreatDoor
