/- Loops over a function whose rounds go on: the statement; along, the iterator, and the contracts of farthest, Find, Longest. -/
import Derived.Test.YthkdjklpegmnnaaTrieB
import Derived.Test.YthkdjklpegmnnaaRf
import Derived.Test.YthkdjklpegmnnaaRg
import Derived.Shelf.Abstract
import Derived.Shelf.RegionOpen
import Derived.OwnWalkIn
import Derived.TacticsInMore
import Derived.LoopNIn
import Derived.LoopIn
namespace Go.Proofs.Ythkdjklpegmnnaa.Tri
open Go Go.RowKit Go.Shelf
set_option linter.unusedVariables false
attribute [local go_sem] Oper.semAt_some

/-- what lies from B on lies as it lay -/
structure Kept (B : Nat) (W W' : World) : Prop where
  size : W.heap.size ≤ W'.heap.size
  same : ∀ b, B ≤ b → b < W.heap.size → W'.heap[b]? = W.heap[b]?
theorem Kept.refl (B : Nat) (W : World) : Kept B W W := ⟨Nat.le_refl _, fun _ _ _ => rfl⟩
theorem Kept.set {B : Nat} {W X : World} (hx : Kept B W X) {b o : Nat} (h : b < B) (v : Value) : Kept B W (X.setCell ⟨b, o, none⟩ v) :=
  ⟨by have := hx.size; simpa [World.setCell] using this, fun k h1 h2 => (Below.heap_setCell _ _ _ _ (by simp; omega)).trans (hx.same k h1 h2)⟩
abbrev mark_ (D : Nat) : Deferred := { target := .collected D, args := #[] }
theorem low_put {B l : Nat} {W : World} {o : Obj} (o' : Obj) (hl : B ≤ l) (h : W.heap[l]? = some o) : Below B W (W.putObj l o') :=
  (Below.refl B W).grown (grownBy_putObj' W l o') (by have := (Array.getElem?_eq_some_iff.1 h).1; omega) (fun k e => by cases e; exact hl)
/-- what a round's body owes -/
def bpost (B : Nat) (I : Nat → World → Prop) (k : Nat) (W : World) : Exit → Act → World → Prop
  | .normal, _, W' => Kept B W W' ∧ I (k + 1) W'
  | _, _, _ => False
set_option maxHeartbeats 2000000 in
theorem rng_p {g : Operand} {ps : Array Tmp} {assign body : Code} {Q : Exit → Act → World → Prop} {a : Act} {w : World} {f0 : FuncId} {fn0 : Func} (hf0 : Try.prog.funcs[f0]? = some fn0) (n : Nat) (gf : FuncId) (caps : Array Value)
    (hg : a.eval g = .func (.func gf) #[] caps) (hgf : ∀ args w, (callFunc gf args).run Try.prog w = .ok (.enter gf args) w) (hps : ps.size = 2) (vals : Nat → Value × Value) (R0 T : Nat → Prop)
    (I : Nat → World → Prop) (hI : ∀ k W W', I k W → Below w.heap.size W W' → I k W') (h0 : I 0 w) (a₁ : Nat → Act)
    (hit : ∀ (l : Nat) (J : Nat → World → Prop) (W1 : World), (∀ k W W', J k W → Below W.heap.size W W' → J k W') → (∀ k W, J k W → I k W ∧ l < W.heap.size) →
      (∀ k W, J k W → R0 k → YieldAt Fence.wide (n - 1 - 1) Try.prog l #[(vals k).1, (vals k).2] W fun e W' => e = .returned (.bool true) ∧ J (k + 1) W') → J 0 W1 →
      CallsIn Fence.wide (n - 1) Try.prog gf (#[.func (.yield l) #[] #[]] ++ caps) W1 fun e W' => ∃ v m, e = .returned v ∧ J (m + 1) W' ∧ T m)
    (hassign : ∀ (l k : Nat) (W : World) (K : Act → World → Prop), R0 k → K (a₁ k) W →
      assign.wpIn (Fence.wide.inRound l) (n - 1 - 1) Try.prog (Exit.then K (fun _ _ _ => False)) { tmps := (ps.zip #[(vals k).1, (vals k).2]).foldl (fun t (p, v) => t.setIfInBounds p v) a.tmps, defers := [] } W)
    (hbody : ∀ (l k : Nat) (W : World), R0 k → I k W → body.wpIn (Fence.wide.inRound l) (n - 1 - 1) Try.prog (bpost w.heap.size I k W) (a₁ k) W)
    (hdone : ∀ (D m : Nat) (W : World), w.heap.size ≤ D → I (m + 1) W → T m → W.heap[D]? = some (.deferred (some [])) → Q .normal { a with defers := mark_ D :: a.defers } W) :
    wpG Try.prog f0 (Code.rangeFunc g ps assign body) Q a w := by
  obtain ⟨rec, hrec⟩ : ∃ rec : LoopState → Option Code → Loop, rec = fun st pe => { state := st, pending := pe, fn := f0, tmps := a.tmps, params := ps, assign, body, defers := w.heap.size } := ⟨_, rfl⟩
  obtain ⟨W1, hW1⟩ : ∃ W1, (w.alloc (.deferred (some []))).alloc (.loop (rec .ready none)) = W1 := ⟨_, rfl⟩
  have hL1 : W1.heap[w.heap.size + 1]? = some (.loop (rec .ready none)) := by
    rw [← hW1]; have := World.alloc_heap_new (w.alloc (.deferred (some []))) (.loop (rec .ready none)); rwa [World.size_alloc] at this
  have hK1 : W1.heap[w.heap.size]? = some (.deferred (some [])) := by
    rw [← hW1]; exact (Below.heap_alloc _ _ _ (by simp)).trans (World.alloc_heap_new w _)
  have hb1 : Below w.heap.size w W1 := by
    rw [← hW1]; exact ((Below.refl _ w).alloc (Nat.le_refl _) _).alloc (by simp) _
  have h1 : I 0 W1 := hI 0 w W1 h0 hb1
  have hit' := hit (w.heap.size + 1) (fun k W => I k W ∧ W.heap[w.heap.size + 1]? = some (.loop (rec .ready none)) ∧ W.heap[w.heap.size]? = some (.deferred (some []))) W1 ?ha ?hr ?hy ⟨h1, hL1, hK1⟩
  case ha =>
    rintro k W W' ⟨hi, hl, hk⟩ hb
    have l1 := (Array.getElem?_eq_some_iff.1 hl).1
    exact ⟨hI k W _ hi (hb.mono (by omega)), (hb.block _ l1).trans hl, (hb.block _ (by omega)).trans hk⟩
  case hr =>
    rintro k W ⟨hi, hl, hk⟩
    exact ⟨hi, (Array.getElem?_eq_some_iff.1 hl).1⟩
  case hy =>
    rintro k W ⟨hi, hl, hk⟩ hlt
    have l1 := (Array.getElem?_eq_some_iff.1 hl).1
    have hy := run_yield (P := Try.prog) (args := #[(vals k).1, (vals k).2]) hl (by rw [hrec]; simpa using hps.symm)
    rw [hrec] at hy
    refine ⟨f0, _, assign, body, hy, round_p trivial hf0 (hassign _ k W _ hlt ⟨_, run_beginRound hl (by rw [hrec]), ?_⟩)⟩
    obtain ⟨W2, hW2⟩ : ∃ W2, W.putObj (w.heap.size + 1) (.loop { rec .ready none with state := .busy }) = W2 := ⟨_, rfl⟩
    rw [hW2]
    have hs2 : W2.heap.size = W.heap.size := by rw [← hW2]; simp
    have hl2 : W2.heap[w.heap.size + 1]? = some (.loop { rec .ready none with state := .busy }) := by rw [← hW2]; exact World.putObj_heap_same l1
    have ho2 : ∀ b, b ≠ w.heap.size + 1 → W2.heap[b]? = W.heap[b]? := fun b hb => by rw [← hW2]; exact World.putObj_heap_other hb
    have hk2 : W2.heap[w.heap.size]? = some (.deferred (some [])) := (ho2 _ (by omega)).trans hk
    have hi2 : I k W2 := by
      refine hI k _ W2 hi ?_
      rw [← hW2]; exact low_put _ (by omega) hl
    refine wpIn_mono (hbody (w.heap.size + 1) k W2 hlt hi2) ?_
    rintro e a3 W3 hp
    cases e
    case normal =>
      obtain ⟨hk3, hi3⟩ := hp
      have hl3 : W3.heap[w.heap.size + 1]? = some (.loop { rec .ready none with state := .busy }) := (hk3.same _ (by omega) (by omega)).trans hl2
      have hd3 : W3.heap[w.heap.size]? = some (.deferred (some [])) := (hk3.same _ (by omega) (by omega)).trans hk2
      have hr := run_endRound (P := Try.prog) none hl3
      rw [hrec] at hr
      refine ⟨_, _, hr, rfl, hI _ _ _ hi3 (low_put _ (by omega) hl3), ?_, (World.putObj_heap_other (by omega)).trans hd3⟩
      rw [hrec]; exact World.putObj_heap_same (Array.getElem?_eq_some_iff.1 hl3).1
    all_goals exact hp.elim
  have hC := callsIn_wide.1 hit'
  clear hit' hit hassign hbody
  obtain ⟨ar, har⟩ : ∃ ar : Array Value, ar = #[.func (.yield (w.heap.size + 1)) #[] #[]] ++ caps := ⟨_, rfl⟩
  rw [← har] at hC
  refine wpG_range (l := w.heap.size + 1) (mk := [mark_ w.heap.size]) (w₁ := W1) (w₁' := W1) (w₂ := W1) (d := { target := .fn (.func gf) caps, args := #[.func (.yield (w.heap.size + 1)) #[] #[]] }) (gf := gf) (args := ar) ?_ ?_ ?_ hC ?_ ?_ ?_
  · rw [← hW1, hrec]; exact run_enterLoop_outer _ _ _ _ _
  · simp only [resolve, hg]
    simp [go_sem]
  · rw [har]; simp [invoke, go_sem, hgf]
  · rintro v W3 ⟨v', m, hv, ⟨hi, hl, hk⟩, hT⟩
    refine ⟨none, _, by have := run_endLoop (P := Try.prog) hl (by rw [hrec]; simp); rw [hrec] at this; exact this, ?_⟩
    exact hdone _ m _ (Nat.le_refl _) (hI _ _ _ hi (low_put _ (by omega) hl)) hT ((World.putObj_heap_other (by omega)).trans hk)
  · rintro ch W3 ⟨v', m, hv, _⟩
    cases hv
  · rintro W3 ⟨v', m, hv, _⟩
    cases hv
/-- a function with one such loop, where it is left -/
theorem mark_leaves {B : Nat} {F : Fence} {n : Nat} {P : Program} {fn : Func} {tmps : Array Value} {R : Ending → World → Prop} {u : FrameMode} (hu : u ≠ .run) {D : Nat} {W : World} (hB : B ≤ D) (hD : W.heap[D]? = some (.deferred (some [])))
    (h : ∀ W', Below B W W' → LeavesInM F n P fn tmps R [] u W') : LeavesInM F n P fn tmps R [mark_ D] u W :=
  ⟨hu, .inl ⟨D, _, rfl, run_takeDeferred hD, h _ ((low_put _ (Nat.le_refl _) hD).mono hB)⟩⟩
theorem wpG_plain {P : Program} {f : FuncId} {c : Code} {Q : Exit → Act → World → Prop} {a : Act} {w : World} (h : c.wp P Q a w) : wpG P f c Q a w := wpG_of (n := 0) (wpIn_wide.2 h)

theorem along_c (ta : Option Addr) (tn tc : Nat) (s : ByteArray) (w : World) : Calls Try.prog 26 #[.slice ta tn tc, .string s] w fun e w' => e = .returned (.func (.func 29) #[] #[.pointer (some ⟨w.heap.size + 1, 0, none⟩), .pointer (some ⟨w.heap.size, 0, none⟩)]) ∧ w' = (w.alloc (.cells #[.slice ta tn tc] 23)).alloc (.cells #[.string s] 9) := by
  have hmf : ∀ (fn : Fn) (first cap : Array Value) (w : World), (Instr.makeFunc fn first cap).run Try.prog w = .ok (.func fn first cap) w := fun _ _ _ _ => rfl
  go_enter Try.func26, Try.ntmps26
  go_wp2
  go_ret
  exact ⟨by simp, rfl⟩

theorem go_lt {t : List Nd} (h : okT t) : ∀ (s : List UInt8) (a k : Nat), a < t.length → go t a s = some k → k < t.length
  | [], a, k, ha, hg => by simp only [go, Option.some.injEq] at hg; omega
  | c :: s, a, k, ha, hg => by
    cases hc : edg (nod t a).es c with
    | none => simp only [go, hc] at hg; cases hg
    | some j =>
      simp only [go, hc] at hg
      refine go_lt h s j.toNat k ?_ hg
      have hok := h.2 a ha
      unfold okN at hok
      simp only [Bool.and_eq_true] at hok
      have hm := (edg_mem (risB_rises.1 hok.2.1) c j).1 hc
      obtain ⟨i, hi, e⟩ := List.getElem_of_mem hm
      rw [eC_at hi] at e
      have := (leaB_iff _ _ _).1 hok.2.2 i hi
      have e2 : eT (nod t a).es i = j := congrArg Prod.snd e
      omega
theorem ok_rises {t : List Nd} (h : okT t) {a : Nat} (ha : a < t.length) : Rises (nod t a).es := by
  have hok := h.2 a ha
  unfold okN at hok
  simp only [Bool.and_eq_true] at hok
  exact risB_rises.1 hok.2.1
theorem ok_lead {t : List Nd} (h : okT t) {a i : Nat} (ha : a < t.length) (hi : i < (nod t a).es.length) : (a : Int) < eT (nod t a).es i ∧ eT (nod t a).es i < t.length := by
  have hok := h.2 a ha
  unfold okN at hok
  simp only [Bool.and_eq_true] at hok
  exact (leaB_iff _ _ _).1 hok.2.2 i hi
theorem take_snoc (s : ByteArray) (k : Nat) (h : k < s.size) : s.data.toList.take (k + 1) = s.data.toList.take k ++ [s[k]] := by
  rw [List.take_succ_eq_append_getElem (by simpa using h)]; rfl
theorem go_next {t : List Nd} {s : ByteArray} {k a : Nat} (hk : k < s.size) (h : go t 0 (s.data.toList.take k) = some a) : go t 0 (s.data.toList.take (k + 1)) = (edg (nod t a).es s[k]).map (·.toNat) := by
  rw [take_snoc s k hk, go_append, h]
  simp only [Option.bind_some, go]
  cases edg (nod t a).es s[k] <;> rfl
/-- where an edge that is there stands -/
theorem cnt_edge {l : List (UInt8 × Int)} (h : Rises l) {c : UInt8} {j : Int} (hj : edg l c = some j) : cnt l c < l.length ∧ eT l (cnt l c) = j := by
  have hm := (edg_mem h c j).1 hj
  obtain ⟨i, hi, e⟩ := List.getElem_of_mem hm
  rw [eC_at hi] at e
  have e1 : eC l i = c := congrArg Prod.fst e
  have e2 : eT l i = j := congrArg Prod.snd e
  have hc : cnt l c = i := cnt_at (by omega) (fun t ht => by rw [← e1]; exact rises_at h ht hi) (fun t h1 h2 => by
    rcases Nat.lt_or_ge i t with h3 | h3
    · have := rises_at h h3 h2
      rw [e1] at this
      intro h4
      exact absurd (UInt8.lt_trans this h4) (UInt8.lt_irrefl _)
    · obtain rfl : t = i := by omega
      rw [e1]; exact UInt8.lt_irrefl _)
  rw [hc]
  exact ⟨hi, e2⟩
end Go.Proofs.Ythkdjklpegmnnaa.Tri
