/- Proved: the statement PickTrue returns true for every input (a year, a month, a day of a month, and a raw number, whatever integers they hold), and its arguments read afterwards as before. Its condition: the table of the months' days holds when the call begins what the program's text lays there; the card ties that to the program's text. -/
import Derived.Test.YtlmhapbmebnmlaaDoorFrame
import Derived.Test.YtlmhapbmebnmlaaDoorPickTrueWalk
import Derived.Test.YtlmhapbmebnmlaaDoorCards
import Derived.Test.YtlmhapbmebnmlaaDoorTie
import Derived.SevenTiedAt
import Derived.Lib.SmallJoins
namespace Go.Proofs.YtlmhapbmebnmlaaDoor
open Go Go.ChangeShapes Go.WideShapes Go.ChangeAt Go.RowKit Go.Joins

theorem field_int {H : Type} {enc : TypeId × Value → H} {W : World} {b : Nat} {sp : Nat → Bool} {hd : Bool} {o : Int} (h : (Lit.int .i64 o).wf = true) :
    ∃ n, DataW.trod enc Tryd.prog W b sp hd n 3 [.int .i64 o] = some (.lit (.int .i64 o), []) := ⟨1, by simp [DataW.trod, Tryd.underlying3, h]⟩
set_option maxRecDepth 100000 in
theorem pickTrue_lifted (os : Os) (started : os.Started) (H : Type) (enc : TypeId × Value → H) :
    ReturnsInHanded {} Tryd.checked os 7 .any (fun w args => (Rows.pickTrueSpec.pre enc Tryd.prog Tryd.f7 [] false w args ∧ laidMetH Tryd.prog laid1 w) ∧ sizedMet enc Tryd.prog Tryd.f7 (OpenSpec.ofChange Rows.pickTrueSpec) false w args)
      (Rows.pickTrueSpec.post enc Tryd.prog Tryd.f7 false true false false) := by
  refine returnsInHanded_of_change_and (C := Tryd.checked) (X := fun w _ => laidMetH Tryd.prog laid1 w) (fun _ _ _ hh h => h.of_heap hh) own started (by kernel_rfl) Tryd.func7
    (ChangeSpec.witness_shaped (enc := enc) (C := Tryd.checked) (os := os) (X := fun w _ => laidMetH Tryd.prog laid1 w) false (World.doorLaid Tryd.prog 400 os) #[.int .i64 0, .int .i64 0, .agg #[.int .i64 0, .int .i64 0, .int .i64 0], .int .i64 0] 8 rfl (World.shaped_of_RefB (by kernel_rfl) (by kernel_rfl)) (by kernel_rfl) (by kernel_rfl) (by kernel_rfl) (door_met os _)) ?_
  intro W base args ds gs before hval0 hW _ _ hL _
  have hval : ∀ (j : Nat) t v, Tryd.f7.params[j]? = some t → args[j]? = some v → Value.okWide Tryd.prog W .any base t v := hval0
  have hW' := hW
  obtain ⟨p, q, hA0, hV, rfl, hfz, hnd⟩ := hW
  have hA : DataW.TrodAll enc Tryd.prog W 0 (fun _ => true) true Tryd.f7.params.toList args.toList ds p := hA0
  rw [Tryd.params7] at hA hval
  obtain ⟨v0, v1, v2, v3, d0, d1, d2, d3, p0, p1, p2, p3, hargs, rfl, rfl, h0, h1, h2, h3⟩ := trodAll_four hA
  obtain rfl : args = #[v0, v1, v2, v3] := by cases args; simp_all
  obtain ⟨rfl, rfl⟩ := trodVars_none hV
  obtain ⟨a0, rfl, rfl, rfl, w0⟩ := open_int Tryd.underlying3 (hval 0 3 v0 rfl rfl) h0
  obtain ⟨a1, rfl, rfl, rfl, w1⟩ := open_int Tryd.underlying3 (hval 1 3 v1 rfl rfl) h1
  obtain ⟨c0, c1, c2, y0, y1, y2, n0, rfl, rfl, rfl, g0, g1, g2⟩ := open_agg3 Tryd.underlying36 (by kernel_rfl) (show Tryd.prog.cellsOf 36 = 3 by kernel_rfl) (hval 2 36 v2 rfl rfl) h2
  obtain ⟨o0, e0, rfl, x0⟩ := DataW.trod_int Tryd.underlying3 g0
  obtain ⟨o1, e1, rfl, x1⟩ := DataW.trod_int Tryd.underlying3 g1
  obtain ⟨o2, e2, rfl, x2⟩ := DataW.trod_int Tryd.underlying3 g2
  simp only [List.cons.injEq, and_true] at e0 e1 e2
  subst e0 e1 e2
  obtain ⟨a3, rfl, rfl, rfl, w3⟩ := open_int Tryd.underlying3 (hval 3 3 v3 rfl rfl) h3
  clear hA0 hval0
  simp only [List.append_nil] at hW'
  refine (PickTrue_w a0 a1 o0 o1 o2 a3 W (of_laid hL) (bounds_i64 w3)).mono fun e W' ⟨he, bel⟩ => ?_
  subst he
  exact ⟨_, rfl, _, _, _, [], _, [], hW', trodAll_mk1 (shut_bool Tryd.underlying4 _), trodAll_mk4 (shut_int Tryd.underlying3 w0) (shut_int Tryd.underlying3 w1) (shut_agg3 (y0 := (.lit (.int .i64 o0), [])) (y1 := (.lit (.int .i64 o1), [])) (y2 := (.lit (.int .i64 o2), [])) Tryd.underlying36 (by kernel_rfl) (show Tryd.prog.cellsOf 36 = 3 by kernel_rfl) (field_int x0) (field_int x1) (field_int x2)) (shut_int Tryd.underlying3 w3), rfl, bel.frame _, fun h => by cases h⟩

theorem pickTrue_row_holds : Rows.PickTrueSaid :=
  OpenClaim.holds_of_wide 7 Tryd.f7 rfl rfl rfl rfl rfl rfl rfl ⟨rfl, rfl, rfl, rfl, rfl⟩ rfl rfl rfl rfl rfl (by kernel_rfl) Tryd.func7 (by kernel_rfl)
    (of_decide_eq_true (by kernel_rfl)) (by unfold Func.isWrapper; first | (rw [if_pos (by decide +kernel)]; kernel_rfl) | (rw [if_neg (by decide +kernel)]; exact ⟨rfl, rfl⟩))
    (fun os started H enc _ => pickTrue_lifted os started H enc)

theorem pickTrue_holds : Rows.PickTrueCardSaid :=
  Claim7.holds_tied_plain_at .later [] [.data] true Rows.pickTrueCard.stood.harness false
    pickTrue_row_holds (fun _ h => by cases h) (by kernel_rfl) (fun _ h => by cases h) pickTrue_row_tie rfl ⟨rfl, rfl⟩ (by kernel_rfl) rfl
    (fun f fn hf hfn => by
      obtain rfl : f = 7 := Option.some.inj ((show Tryd.prog.funcNamed "gnomon/gnomonlaw.PickTrue" = some 7 by kernel_rfl).symm.trans hf) |>.symm
      obtain rfl : fn = Tryd.f7 := (Option.some.inj (Tryd.func7.symm.trans hfn)).symm
      exact ⟨by kernel_rfl, fun j t ht => by
        rw [Tryd.params7] at ht
        have hm : t ∈ [3, 36] := by
          have := Array.mem_of_getElem? ht
          simp at this
          first
            | (rcases this with this | this <;> simp [this]; done)
            | (rcases this with this | this | this <;> simp [this]; done)
        have hall : ([3, 36].all fun u => !Tryd.prog.wantsStandIn u) = true := by kernel_rfl
        exact (show Tryd.prog.wantsStandIn t = false by simpa using List.all_eq_true.1 hall t hm)⟩)
    (by kernel_rfl)
#print axioms pickTrue_holds
end Go.Proofs.YtlmhapbmebnmlaaDoor
