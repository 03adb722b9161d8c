/- The walk of one function's own activation (its number is known): what a loop over a function wants whose rounds may panic. Of whatever program. -/
import Derived.Test.YtdffopkljomipaaGreatDoorRf
import Derived.TacticsInMore
namespace Go.Proofs.YtdffopkljomipaaGreatDoor
open Go Go.RowKit
set_option linter.unusedVariables false

/-- as 'wpIn' at the wide fence, of activations of function f alone -/
def wpG (P : Program) (f : FuncId) (c : Code) (Q : Exit → Act → World → Prop) (a : Act) (w : World) : Prop :=
  ∀ (b : Frame) (k : List Item) (cs : List Frame), b.roundOf = none → b.fn = f →
    ∃ e a' w', Q e a' w' ∧ ArrivesIn (Machine.fenced P Fence.wide) P (lone (b.atR a (.code c :: k)) cs w) b k cs e a' w'
section
variable {P : Program} {f : FuncId} {Q : Exit → Act → World → Prop} {a : Act} {w : World}
theorem wpG_of {n : Nat} {c : Code} (h : c.wpIn Fence.wide n P Q a w) : wpG P f c Q a w := fun b k cs hr _ => h b k cs hr trivial (room_wide _)
theorem wpG_mono {c : Code} {Q' : Exit → Act → World → Prop} (h : wpG P f c Q a w) (hq : ∀ e a w, Q e a w → Q' e a w) : wpG P f c Q' a w :=
  fun b k cs hr hf => let ⟨e, a', w', q, r⟩ := h b k cs hr hf; ⟨e, a', w', hq _ _ _ q, r⟩
theorem wpG_seq {x y : Code} (h : wpG P f x (Exit.then (wpG P f y Q) Q) a w) : wpG P f (.seq x y) Q a w := by
  intro b k cs hr hf
  have st : StepsIn (Machine.fenced P Fence.wide) P (lone (b.atR a (.code (.seq x y) :: k)) cs w) (lone (b.atR a (.code x :: .code y :: k)) cs w) := .one (fenced_wide _ _) stepR_seq
  obtain ⟨e, a₁, w₁, hq, har⟩ := h b (.code y :: k) cs hr hf
  cases e
  case normal =>
    obtain ⟨e₂, a₂, w₂, hq₂, h2⟩ := hq b k cs hr hf
    exact ⟨e₂, a₂, w₂, hq₂, .of_steps (st.trans har) h2⟩
  all_goals exact ⟨_, a₁, w₁, hq, .of_steps st (.pass (x := .code y) rfl (fun _ _ => .inl (by simp)) har)⟩
theorem wpG_cond {c : Operand} {x y : Code} {t : Bool} (hc : a.eval c = .bool t) (h : wpG P f (if t then x else y) Q a w) : wpG P f (.cond c x y) Q a w :=
  fun b k cs hr hf => let ⟨e, a', w', q, r⟩ := h b k cs hr hf; ⟨e, a', w', q, .of_steps (.one (fenced_wide _ _) (stepR_cond hc)) r⟩
theorem wpG_block {id : Nat} {c : Code} (h : wpG P f c (Exit.inBlock id Q) a w) : wpG P f (.block id c) Q a w := by
  intro b k cs hr hf
  have st : StepsIn (Machine.fenced P Fence.wide) P (lone (b.atR a (.code (.block id c) :: k)) cs w) (lone (b.atR a (.code c :: .inBlock id :: k)) cs w) := .one (fenced_wide _ _) stepR_block
  obtain ⟨e, a₁, w₁, hq, har⟩ := h b (.inBlock id :: k) cs hr hf
  cases e
  case normal => exact ⟨.normal, a₁, w₁, hq, st.trans (StepsIn.trans har (.one (fenced_wide _ _) stepR_inBlock))⟩
  case exit i =>
    by_cases hi : i = id
    · simp only [Exit.inBlock, hi, if_true] at hq
      exact ⟨.normal, a₁, w₁, hq, st.trans (har.1 k (by simp [exitTo, hi]))⟩
    · simp only [Exit.inBlock, hi, if_false] at hq
      have e1 : (id == i) = false := by simp; exact fun h => hi h.symm
      have hx : exitTo i (.inBlock id :: k) = exitTo i k := by simp [exitTo, e1]
      exact ⟨.exit i, a₁, w₁, hq, fun k' hk => st.trans (har.1 k' (by rw [hx]; exact hk)), fun hr' hk => let ⟨k₁, h1, h2⟩ := har.2 hr' (by rw [hx]; exact hk); ⟨k₁, h1, st.trans h2⟩⟩
  case goto l =>
    have hx : gotoIn l (.inBlock id :: k) = gotoIn l k := by simp [gotoIn]
    exact ⟨_, a₁, w₁, hq, fun k' hk => st.trans (har.1 k' (by rw [hx]; exact hk)), fun hr' hk => let ⟨k₁, h1, h2⟩ := har.2 hr' (by rw [hx]; exact hk); ⟨k₁, h1, st.trans h2⟩⟩
  all_goals exact ⟨_, a₁, w₁, hq, .of_steps st har⟩
theorem wpG_loop {c : Code} (I : Act → World → Prop) (μ : Act → World → Nat) (h0 : I a w)
    (round : ∀ a w, I a w → wpG P f c (Exit.then (fun a' w' => I a' w' ∧ μ a' w' < μ a w) Q) a w) : wpG P f (.loop c) Q a w := by
  intro b k cs hr hf
  have key : ∀ j a w, μ a w = j → I a w →
      ∃ e a' w', Q e a' w' ∧ ArrivesIn (Machine.fenced P Fence.wide) P (lone (b.atR a (.code c :: .inLoop c :: k)) cs w) b k cs e a' w' := by
    intro j
    induction j using Nat.strongRecOn
    rename_i j ih
    intro a w hn hI
    obtain ⟨e, a₁, w₁, hq, har⟩ := round a w hI b (.inLoop c :: k) cs hr hf
    cases e
    case normal =>
      obtain ⟨hI₁, hlt⟩ := hq
      obtain ⟨e₂, a₂, w₂, hq₂, h2⟩ := ih (μ a₁ w₁) (hn ▸ hlt) a₁ w₁ rfl hI₁
      exact ⟨e₂, a₂, w₂, hq₂, .of_steps (StepsIn.trans har (.one (fenced_wide _ _) stepR_inLoop)) h2⟩
    all_goals exact ⟨_, a₁, w₁, hq, .pass (x := .inLoop c) rfl (fun _ _ => .inl (by simp)) har⟩
  obtain ⟨e, a', w', hq, har⟩ := key _ a w rfl h0
  exact ⟨e, a', w', hq, .of_steps (.one (fenced_wide _ _) stepR_loop) har⟩

/-- a function's contract from its body -/
theorem calls_of_wpG {fn : Func} {c : Code} {args : Array Value} {R : Ending → World → Prop} (hf : P.funcs[f]? = some fn) (hb : fn.body = some c)
    (h : wpG P f c (bodyPostM Fence.wide 0 P fn R) { tmps := args ++ Array.replicate (fn.ntmps - args.size) undef, defers := [] } w) : Calls P f args w R := by
  refine (callsIn_wide (n := 0)).1 ⟨trivial, fun cs _ => ?_⟩
  let b : Frame := { (default : Frame) with fn := f, kind := .normal, roundOf := none }
  have henter : Frame.enter P f args .normal = b.atR { tmps := args ++ Array.replicate (fn.ntmps - args.size) undef, defers := [] } [.code c] := by
    simp [Frame.enter, Frame.atR, hf, hb, b]
  obtain ⟨e, a', w', hq, har⟩ := h b [] cs rfl rfl
  rw [← henter] at har
  cases e
  case normal =>
    obtain ⟨e', w'', fr', hR, hs, hfn, hl⟩ := leaves_stepsInM a'.defers .returning w' { b.atR a' [] with mode := .returning } cs rfl rfl rfl hf rfl trivial (room_wide _) hq
    exact ⟨e', w'', fr', hR, ComesIn.of_steps (StepsIn.trans har (.one (fenced_wide _ _) (stepR_end rfl))) hs, hfn, hl⟩
  case ret =>
    obtain ⟨todo, hs₀⟩ := har.1 rfl
    obtain ⟨e', w'', fr', hR, hs, hfn, hl⟩ := leaves_stepsInM a'.defers .returning w' { b.atR a' todo with mode := .returning } cs rfl rfl rfl hf rfl trivial (room_wide _) hq
    exact ⟨e', w'', fr', hR, ComesIn.of_steps hs₀ hs, hfn, hl⟩
  case panic chain =>
    obtain ⟨todo, hs₀⟩ := har
    obtain ⟨e', w'', fr', hR, hs, hfn, hl⟩ := leaves_stepsInM a'.defers (.panicking chain) w' { b.atR a' todo with mode := .panicking chain } cs rfl rfl rfl hf rfl trivial (room_wide _) hq
    exact ⟨e', w'', fr', hR, ComesIn.of_steps hs₀ hs, hfn, hl⟩
  case outgrown => exact ⟨.outgrown, w', b, hq, har.resolve_left (by simp [b]), rfl, trivial⟩
  all_goals exact hq.elim

/-- the statement -/
theorem wpG_range {g : Operand} {ps : Array Tmp} {assign body : Code} {l : Nat} {mk : List Deferred} {w₁ w₁' w₂ : World} {d : Deferred} {gf : FuncId} {args : Array Value} {R : Ending → World → Prop}
    (he : (Instr.enterLoop f a.tmps ps assign body none).run P w = .ok (l, mk) w₁) (hres : (resolve a.eval (rangeCall g l) 0).run P w₁ = .ok d w₁') (hinv : (invoke d.target d.args).run P w₁' = .ok (.enter gf args) w₂)
    (hc : Calls P gf args w₂ R)
    (hr : ∀ v w₃, R (.returned v) w₃ → ∃ jump w₄, (Instr.endLoop l).run P w₃ = .ok jump w₄ ∧ (match jump with | none => Q .normal { a with defers := mk ++ a.defers } w₄ | some c => wpG P f c Q { a with defers := mk ++ a.defers } w₄))
    (hp : ∀ ch w₃, R (.panicked ch) w₃ → Q (.panic ch) { a with defers := mk ++ a.defers } w₃) (ho : ∀ w₃, ¬ R .outgrown w₃) :
    wpG P f (.rangeFunc g ps assign body) Q a w := by
  intro b k cs hro hf
  have he' : (Instr.enterLoop b.fn a.tmps ps assign body b.roundOf).run P w = .ok (l, mk) w₁ := by rw [hf, hro]; exact he
  have st := stepR_rangeFunc (P := P) (b := b) (a := a) (k := k) (cs := cs) (w := w) he' hres hinv
  obtain ⟨e, w₃, fr, hR, hs, hfn, hl⟩ := hc (b.atR { a with defers := mk ++ a.defers } (.inRangeFunc l :: k) :: cs)
  cases e
  case outgrown => exact (ho _ hR).elim
  case returned v =>
    obtain ⟨jump, w₄, hend, hj⟩ := hr v w₃ hR
    have sb : StepsIn (Machine.fenced P Fence.wide) P (lone (b.atR a (.code (.rangeFunc g ps assign body) :: k)) cs w) (lone (b.atR { a with defers := mk ++ a.defers } ((jump.map Item.code).toList ++ k)) cs w₄) := by
      refine .head (fenced_wide _ _) st (StepsIn.trans (stepsIn_wide.2 hs) (.head (fenced_wide _ _) ?_ (.one (fenced_wide _ _) (stepR_endRangeFunc hend))))
      rw [← finish_atR_inRangeFunc l v]; exact step_leave_returned hl
    cases jump
    case none => exact ⟨.normal, _, w₄, hj, sb⟩
    case some c =>
      obtain ⟨e', a'', w₅, hq, har⟩ := hj b k cs hro hf
      exact ⟨e', a'', w₅, hq, .of_steps sb har⟩
  case panicked ch =>
    refine ⟨.panic ch, _, w₃, hp ch w₃ hR, .inRangeFunc l :: k, .head (fenced_wide _ _) st (StepsIn.trans (stepsIn_wide.2 hs) (.one (fenced_wide _ _) ?_))⟩
    rw [← Frame.raise_atR]; exact step_leave_panicked hl
end
end Go.Proofs.YtdffopkljomipaaGreatDoor
