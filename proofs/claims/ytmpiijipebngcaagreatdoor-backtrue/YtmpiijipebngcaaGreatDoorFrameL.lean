/- What is handed in is bounded in bytes: the wrap that keeps it; a link that is handed in. -/
import Derived.Test.YtmpiijipebngcaaGreatDoorOpenAll
namespace Go.Proofs.YtmpiijipebngcaaGreatDoor
open Go Go.ChangeShapes Go.WideShapes Go.ChangeAt Go.WideMaps Go.WideElems Go.RowKit Go.Deep
set_option maxRecDepth 100000
set_option linter.unusedVariables false

/-- the wrap with the tables' condition, the world's shape and the reach of what is handed in -/
theorem handed_sized {H : Type} {enc : TypeId × Value → H} {a : Assume} {C : Checked} {os : Os} {f : FuncId} {fn : Func} {s : ChangeSpec} {conds : List PathCond} {apart fresh handsOn again : Bool} {X : World → Array Value → Prop}
    (hX : ∀ (w w' : World) (args : Array Value), w.heap = w'.heap → X w args → X w' args)
    (own : ownKnob C.prog.godebug = none) (started : os.Started) (noInit : C.prog.inits.idxOf? f = none) (hfn : C.prog.funcs[f]? = some fn)
    (witness : ∃ (w : World) (tape : Tape) (i : Input), w.os = os ∧ (w.forCall tape i).Shaped C.prog ∧ i.vars = [] ∧ Input.okWide C.prog (w.forCall tape i) .any w.heap.size f i ∧
      ((s.pre enc C.prog fn conds apart (w.forCall tape i).memory i.args ∧ X (w.forCall tape i).memory i.args) ∧ sizedMet enc C.prog fn (OpenSpec.ofChange s) apart (w.forCall tape i).memory i.args) ∧ a.holds C.prog (lone (Frame.enter C.prog f i.args .normal) [] (w.forCall tape i)))
    (contract : ∀ (W : World) (base : Nat) (args : Array Value) (ds gs : List (DataW H)) (before : List MemPlace),
      (∀ (j : Nat) t v, fn.params[j]? = some t → args[j]? = some v → Value.okWide C.prog W .any base t v) →
      DataW.Whole enc C.prog fn.params.toList s.vars apart W args.toList ds gs before → X W args → W.ShapedOpen C.prog →
      (DataW.weightsEach C.prog (fn.params.toList ++ (OpenSpec.ofChange s).bare.plain.varTypes C.prog) (ds ++ gs)).all (· ≤ reachBytes) = true →
      Calls C.prog f args W fun e W' => ∃ v, e = .returned v ∧ s.post enc C.prog fn apart fresh handsOn again W args v W') :
    ReturnsInHanded a C os f .any (fun w args => (s.pre enc C.prog fn conds apart w args ∧ X w args) ∧ sizedMet enc C.prog fn (OpenSpec.ofChange s) apart w args) (s.post enc C.prog fn apart fresh handsOn again) := by
  refine returnsInHanded_of_calls own started noInit witness ?_
  intro w tape i _ hsh _ hok hpre _
  obtain ⟨_, _, _, fn', hfn', _, _, _, _, hval⟩ := hok
  obtain rfl : fn' = fn := Option.some.inj (hfn'.symm.trans hfn)
  obtain ⟨⟨_, hx⟩, _, ds, gs, before, hw, hall⟩ := hpre
  refine (contract (w.forCall tape i) w.heap.size i.args ds gs before hval (DataW.Whole.of_heap (w' := w.forCall tape i) (by rfl) hw) (hX _ _ _ (by rfl) hx) hsh hall).mono fun e W' ⟨v, he, hp⟩ => ?_
  subst he
  exact ChangeSpec.post_blind hp
section
variable {H : Type} {enc : TypeId × Value → H} {w : World} {sp : Nat → Bool} {hd : Bool}
/-- how many links may be handed in -/
theorem data_sized {D : Dt} {d : DataW H} {p : List MemPlace} (h : DataW.Trod enc Tryz.prog w 0 sp hd 26 D.v d p) (hw : ∀ m, m ∈ DataW.weights Tryz.prog 26 d → m ≤ reachBytes) : D.nl * 32 ≤ reachBytes := by
  obtain ⟨fuel, hf⟩ := h
  obtain ⟨y0, y1, y2, n, hy, hl, f0, f1, f2⟩ := trod_struct3 Tryz.underlying26 hf
  obtain ⟨rfl, _⟩ := Prod.mk.inj hy
  have f2' : DataW.trod enc Tryz.prog w 0 sp hd n 24 [.slice D.la D.nl D.lc] = some y2 := by simpa [cellsLinks, Value.cells] using f2
  rcases DataW.trod_slice Tryz.underlying24 f2' with ⟨hc, hx⟩ | ⟨a', len, cap, elems, rest, n2, _, hc, hx, _, _, _, hlen, _⟩
  · have : D.nl = 0 := (Value.slice.inj (List.cons.inj hc).1).2.1
    rw [this]; simp
  · have e : D.nl = len := (Value.slice.inj (List.cons.inj hc).1).2.1
    have hb : Tryz.prog.bytesOf 113 = 32 := by kernel_rfl
    have := hw ((elems.length + rest.length) * 32) (by simp [DataW.weights, DataW.weightsEach, Tryz.underlying26, Tryz.underlying24, hx, hb])
    rw [hlen] at this
    rw [e]
    omega
/-- a link that is handed in -/
theorem open_link {r0 : Reach} {b0 : Nat} {v : Value} {d : DataW H} {p : List MemPlace}
    (hv : Value.okWide Tryz.prog w r0 b0 113 v) (h : DataW.Trod enc Tryz.prog w 0 sp hd 113 v d p) : ∃ x : Lk, v = .agg #[.string x.nm, .string x.to] ∧ x.nm.size ≤ maxLen ∧ x.to.size ≤ maxLen := by
  obtain ⟨cs, rfl, _⟩ := okWide_struct Tryz.underlying113 hv
  obtain ⟨fuel, hf⟩ := h
  obtain ⟨x, hr, h1, h2⟩ := link_of_trod hf
  refine ⟨x, ?_, h1, h2⟩
  have : cs.toList = [.string x.nm, .string x.to] := by simpa [Value.cells] using hr
  have e : cs = #[.string x.nm, .string x.to] := by cases cs; simpa using this
  rw [e]
end
end Go.Proofs.YtmpiijipebngcaaGreatDoor
