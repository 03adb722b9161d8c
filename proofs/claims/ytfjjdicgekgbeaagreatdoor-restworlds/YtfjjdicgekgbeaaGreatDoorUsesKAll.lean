/- Uses that the statements call; what usesBegun asks. -/
import Derived.Test.YtfjjdicgekgbeaaGreatDoorUsesGAll
import Derived.Test.YtfjjdicgekgbeaaGreatDoorDataBegunAll
namespace Go.Proofs.YtfjjdicgekgbeaaGreatDoor
open Go Go.RowKit Go.Maps
set_option linter.unusedVariables false

/-- the statements' own uses -/
def cl (i : Nat) : Us := if i = 0 then ⟨old, 500000000, 1893456000, ⟨#[109, 105, 100]⟩⟩ else ⟨⟨#[65, 47, 87, 101, 115, 116]⟩, 0, 1000, ⟨#[109, 105, 100]⟩⟩
/-- the same, the second one another -/
def cx (i : Nat) : Us := if i = 0 then ⟨old, 500000000, 1893456000, ⟨#[109, 105, 100]⟩⟩ else ⟨old, 0, 500000001, ⟨#[97]⟩⟩
abbrev clC : Obj := .cells #[.string old, .int .i64 500000000, .int .i64 1893456000, .string ⟨#[109, 105, 100]⟩, .string ⟨#[65, 47, 87, 101, 115, 116]⟩, .int .i64 0, .int .i64 1000, .string ⟨#[109, 105, 100]⟩] 83
theorem cl_fits (j : Nat) : (cl j).fits := by
  unfold cl
  split <;> exact ⟨by decide, by decide, by decide, by decide⟩
theorem cx_fits (j : Nat) : (cx j).fits := by
  unfold cx
  split <;> exact ⟨by decide, by decide, by decide, by decide⟩
theorem cl_at {w : World} {b : Nat} (h : w.heap[b]? = some clC) : UAt w (some ⟨b, 0, none⟩) 2 cl := by
  refine .inr ⟨b, 0, rfl, fun j hj => ?_⟩
  have h2 : j = 0 ∨ j = 1 := by omega
  rcases h2 with rfl | rfl <;> simp [World.cell?, h, cl]
theorem cx_at {w : World} {b : Nat} (h : w.heap[b]? = some (.cells #[.string old, .int .i64 500000000, .int .i64 1893456000, .string ⟨#[109, 105, 100]⟩, .string old, .int .i64 0, .int .i64 500000001, .string ⟨#[97]⟩] 83)) : UAt w (some ⟨b, 0, none⟩) 2 cx := by
  refine .inr ⟨b, 0, rfl, fun j hj => ?_⟩
  have h2 : j = 0 ∨ j = 1 := by omega
  rcases h2 with rfl | rfl <;> simp [World.cell?, h, cx]
theorem called_c (w : World) : Calls Tryz.prog 33 #[] w fun e w' => e = .returned (.slice (some ⟨w.heap.size, 0, none⟩) 2 2) ∧ w'.heap[w.heap.size]? = some clC ∧ Below w.heap.size w w' := by
  go_enter Tryz.func33, Tryz.ntmps33
  go_wp2
  go_ret
  exact ⟨rfl, World.alloc_heap_new _ _, (Below.refl _ _).alloc (Nat.le_refl _) _⟩
abbrev euV (b : Nat) : Value := .agg #[.slice (some ⟨b, 0, none⟩) 1 1, .slice (some ⟨b + 3, 0, none⟩) 2 2, .slice (some ⟨b + 4, 0, none⟩) 2 2]
theorem eu_env {w : World} {r b : Nat} {a : Option Addr} {us : Nat → Us} (hE : Env w (eu r b (-1) old)) (hU : UAt w a 2 us) (hf : ∀ j, j < 2 → (us j).fits) : UEnv w (eu r b (-1) old) a 2 2 us := ⟨hE, eu_fits r b (-1) old old10, by unfold maxLen; omega, Nat.le_refl _, hU, hf⟩
set_option maxRecDepth 100000 in
theorem ub1 (r b : Nat) : umtR (eu r b (-1) old) 2 cl ⟨#[84]⟩ 500000000 = ⟨#[109, 105, 100]⟩ := by kernel_rfl
set_option maxRecDepth 100000 in
theorem ub2 (r b : Nat) : umtE (eu r b (-1) old) 2 cl ⟨#[84]⟩ 500000000 = 0 := by kernel_rfl
set_option maxRecDepth 100000 in
theorem ub3 (r b : Nat) : umtR (eu r b (-1) old) 2 cl ⟨#[84, 111, 119, 110]⟩ 7 = ⟨#[]⟩ := by kernel_rfl
set_option maxRecDepth 100000 in
theorem ub4 (r b : Nat) : umtE (eu r b (-1) old) 2 cl ⟨#[84, 111, 119, 110]⟩ 7 = 0 := by kernel_rfl
set_option maxRecDepth 100000 in
theorem ub5 (r b : Nat) : umtE (eu r b (-1) old) 2 cl ⟨#[88]⟩ 7 = 4 := by kernel_rfl
set_option maxRecDepth 100000 in
theorem ub6 (r b : Nat) : uznE (eu r b (-1) old) 2 cl ⟨#[109, 105, 100]⟩ 7 = 0 := by kernel_rfl
set_option maxRecDepth 100000 in
theorem ub7 (r b : Nat) : zlst (eu r b (-1) old) cl 2 ⟨#[109, 105, 100]⟩ 7 2 = [[65, 47, 87, 101, 115, 116]] := by kernel_rfl
set_option maxRecDepth 100000 in
theorem ub8 (r b : Nat) : uchk (eu r b (-1) old) 2 cl = 0 := by kernel_rfl
set_option maxRecDepth 100000 in
theorem ub9 (r b : Nat) : uchk (eu r b (-1) old) 2 cx = 6 := by kernel_rfl
theorem ub10 (r b : Nat) : uznL (eu r b (-1) old) 2 cl ⟨#[109, 105, 100]⟩ 7 = [[65, 47, 87, 101, 115, 116]] := by
  unfold uznL
  rw [if_pos (ub6 r b)]
  show srt (zlst (eu r b (-1) old) cl 2 ⟨#[109, 105, 100]⟩ 7 2) = _
  rw [ub7]
  simp [srt]
end Go.Proofs.YtfjjdicgekgbeaaGreatDoor

/- What the statements ask of uses in any case: usesBegun answers true. -/
namespace Go.Proofs.YtfjjdicgekgbeaaGreatDoor
open Go Go.RowKit Go.Maps
set_option linter.unusedVariables false

theorem frozenU {w : World} {b : Nat} {cs : Array Value} {t : TypeId} (h : w.heap[b]? = some (.cells cs t)) (k : Nat) : w.frozen? ⟨b, k, none⟩ = false := by simp [World.frozen?, h]
theorem setCellU {w : World} {b o : Nat} {cs : Array Value} {t : TypeId} (h : w.heap[b]? = some (.cells cs t)) (v : Value) : (w.setCell ⟨b, o, none⟩ v).heap[b]? = some (.cells (cs.setIfInBounds o v) t) := by
  have hlt := (Array.getElem?_eq_some_iff.1 h).1
  have h' := (Array.getElem?_eq_some_iff.1 h).2
  simp [World.setCell, hlt, Array.getElem_modify, h']
theorem meta_eu (r b p : Nat) (s : ByteArray) (t : Int) (R : ByteArray) (E : Int) (w : World) (hE : Env w (eu r b (-1) old)) (hU : w.heap[p]? = some clC) (hs : s.size ≤ 10) (h1 : umtR (eu r b (-1) old) 2 cl s t = R) (h2 : umtE (eu r b (-1) old) 2 cl s t = E) :
    Calls Tryz.prog 102 #[euV b, .slice (some ⟨p, 0, none⟩) 2 2, .string s, .int .i64 t] w fun e w' => e = .returned (.tuple #[.string R, .int .i64 E]) ∧ Below w.heap.size w w' := by
  have := Meta_c (eu r b (-1) old) (some ⟨p, 0, none⟩) 2 2 cl s t w (eu_env hE (cl_at hU) (fun j _ => cl_fits j)) (eu_small s hs)
  rw [h1, h2] at this
  exact this
theorem ucheck_eu (r b : Nat) (us : Nat → Us) (a : Option Addr) (E : Int) (w : World) (hE : Env w (eu r b (-1) old)) (hU : UAt w a 2 us) (hf : ∀ j, j < 2 → (us j).fits) (h : uchk (eu r b (-1) old) 2 us = E) :
    Calls Tryz.prog 59 #[euV b, .slice a 2 2] w fun e w' => e = .returned (.int .i64 E) ∧ Below w.heap.size w w' := by
  have := (eu_env hE hU hf).check
  rw [h] at this
  exact this
end Go.Proofs.YtfjjdicgekgbeaaGreatDoor
