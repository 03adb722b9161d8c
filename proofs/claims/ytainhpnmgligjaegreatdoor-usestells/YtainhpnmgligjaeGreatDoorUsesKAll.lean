/- Uses that the statements call; what usesBegun asks. -/
import Derived.Test.YtainhpnmgligjaeGreatDoorUsesGAll
import Derived.Test.YtainhpnmgligjaeGreatDoorDataBegunAll
namespace Go.Proofs.YtainhpnmgligjaeGreatDoor
open Go Go.RowKit Go.Maps
set_option linter.unusedVariables false

/-- the statements' own uses -/
def cl (i : Nat) : Us := if i = 0 then ⟨old, 500000000, 1893456000, ⟨#[109, 105, 100]⟩⟩ else ⟨⟨#[65, 47, 87, 101, 115, 116]⟩, 0, 1000, ⟨#[109, 105, 100]⟩⟩
/-- the same, the second one another -/
def cx (i : Nat) : Us := if i = 0 then ⟨old, 500000000, 1893456000, ⟨#[109, 105, 100]⟩⟩ else ⟨old, 0, 500000001, ⟨#[97]⟩⟩
abbrev clC : Obj := .cells #[.string old, .int .i64 500000000, .int .i64 1893456000, .string ⟨#[109, 105, 100]⟩, .string ⟨#[65, 47, 87, 101, 115, 116]⟩, .int .i64 0, .int .i64 1000, .string ⟨#[109, 105, 100]⟩] 43
theorem cl_fits (j : Nat) : (cl j).fits := by
  unfold cl
  split <;> exact ⟨by decide, by decide, by decide, by decide⟩
theorem cx_fits (j : Nat) : (cx j).fits := by
  unfold cx
  split <;> exact ⟨by decide, by decide, by decide, by decide⟩
theorem cl_at {w : World} {b : Nat} (h : w.heap[b]? = some clC) : UAt w (some ⟨b, 0, none⟩) 2 cl := by
  refine .inr ⟨b, 0, rfl, fun j hj => ?_⟩
  have h2 : j = 0 ∨ j = 1 := by omega
  rcases h2 with rfl | rfl <;> simp [World.cell?, h, cl]
theorem cx_at {w : World} {b : Nat} (h : w.heap[b]? = some (.cells #[.string old, .int .i64 500000000, .int .i64 1893456000, .string ⟨#[109, 105, 100]⟩, .string old, .int .i64 0, .int .i64 500000001, .string ⟨#[97]⟩] 43)) : UAt w (some ⟨b, 0, none⟩) 2 cx := by
  refine .inr ⟨b, 0, rfl, fun j hj => ?_⟩
  have h2 : j = 0 ∨ j = 1 := by omega
  rcases h2 with rfl | rfl <;> simp [World.cell?, h, cx]
theorem called_c (w : World) : Calls Tryz.prog 26 #[] w fun e w' => e = .returned (.slice (some ⟨w.heap.size, 0, none⟩) 2 2) ∧ w'.heap[w.heap.size]? = some clC ∧ Below w.heap.size w w' := by
  go_enter Tryz.func26, Tryz.ntmps26
  go_wp2
  go_ret
  exact ⟨rfl, World.alloc_heap_new _ _, (Below.refl _ _).alloc (Nat.le_refl _) _⟩
abbrev euV (b : Nat) : Value := .agg #[.slice (some ⟨b, 0, none⟩) 1 1, .slice (some ⟨b + 3, 0, none⟩) 2 2, .slice (some ⟨b + 4, 0, none⟩) 2 2]
theorem eu_env {w : World} {r b : Nat} {a : Option Addr} {us : Nat → Us} (hE : Env w (eu r b (-1) old)) (hU : UAt w a 2 us) (hf : ∀ j, j < 2 → (us j).fits) : UEnv w (eu r b (-1) old) a 2 2 us := ⟨hE, eu_fits r b (-1) old old10, by unfold maxLen; omega, Nat.le_refl _, hU, hf⟩
set_option maxRecDepth 100000 in
theorem ub1 (r b : Nat) : umtR (eu r b (-1) old) 2 cl ⟨#[84]⟩ 500000000 = ⟨#[109, 105, 100]⟩ := by kernel_rfl
set_option maxRecDepth 100000 in
theorem ub2 (r b : Nat) : umtE (eu r b (-1) old) 2 cl ⟨#[84]⟩ 500000000 = 0 := by kernel_rfl
set_option maxRecDepth 100000 in
theorem ub3 (r b : Nat) : umtR (eu r b (-1) old) 2 cl ⟨#[84, 111, 119, 110]⟩ 7 = ⟨#[]⟩ := by kernel_rfl
set_option maxRecDepth 100000 in
theorem ub4 (r b : Nat) : umtE (eu r b (-1) old) 2 cl ⟨#[84, 111, 119, 110]⟩ 7 = 0 := by kernel_rfl
set_option maxRecDepth 100000 in
theorem ub5 (r b : Nat) : umtE (eu r b (-1) old) 2 cl ⟨#[88]⟩ 7 = 4 := by kernel_rfl
set_option maxRecDepth 100000 in
theorem ub6 (r b : Nat) : uznE (eu r b (-1) old) 2 cl ⟨#[109, 105, 100]⟩ 7 = 0 := by kernel_rfl
set_option maxRecDepth 100000 in
theorem ub7 (r b : Nat) : zlst (eu r b (-1) old) cl 2 ⟨#[109, 105, 100]⟩ 7 2 = [[65, 47, 87, 101, 115, 116]] := by kernel_rfl
set_option maxRecDepth 100000 in
theorem ub8 (r b : Nat) : uchk (eu r b (-1) old) 2 cl = 0 := by kernel_rfl
set_option maxRecDepth 100000 in
theorem ub9 (r b : Nat) : uchk (eu r b (-1) old) 2 cx = 6 := by kernel_rfl
theorem ub10 (r b : Nat) : uznL (eu r b (-1) old) 2 cl ⟨#[109, 105, 100]⟩ 7 = [[65, 47, 87, 101, 115, 116]] := by
  unfold uznL
  rw [if_pos (ub6 r b)]
  show srt (zlst (eu r b (-1) old) cl 2 ⟨#[109, 105, 100]⟩ 7 2) = _
  rw [ub7]
  simp [srt]
end Go.Proofs.YtainhpnmgligjaeGreatDoor

/- What the statements ask of uses in any case: usesBegun answers true. -/
namespace Go.Proofs.YtainhpnmgligjaeGreatDoor
open Go Go.RowKit Go.Maps
set_option linter.unusedVariables false

theorem frozenU {w : World} {b : Nat} {cs : Array Value} {t : TypeId} (h : w.heap[b]? = some (.cells cs t)) (k : Nat) : w.frozen? ⟨b, k, none⟩ = false := by simp [World.frozen?, h]
theorem setCellU {w : World} {b o : Nat} {cs : Array Value} {t : TypeId} (h : w.heap[b]? = some (.cells cs t)) (v : Value) : (w.setCell ⟨b, o, none⟩ v).heap[b]? = some (.cells (cs.setIfInBounds o v) t) := by
  have hlt := (Array.getElem?_eq_some_iff.1 h).1
  have h' := (Array.getElem?_eq_some_iff.1 h).2
  simp [World.setCell, hlt, Array.getElem_modify, h']
theorem meta_eu (r b p : Nat) (s : ByteArray) (t : Int) (R : ByteArray) (E : Int) (w : World) (hE : Env w (eu r b (-1) old)) (hU : w.heap[p]? = some clC) (hs : s.size ≤ 10) (h1 : umtR (eu r b (-1) old) 2 cl s t = R) (h2 : umtE (eu r b (-1) old) 2 cl s t = E) :
    Calls Tryz.prog 6 #[euV b, .slice (some ⟨p, 0, none⟩) 2 2, .string s, .int .i64 t] w fun e w' => e = .returned (.tuple #[.string R, .int .i64 E]) ∧ Below w.heap.size w w' := by
  have := Meta_c (eu r b (-1) old) (some ⟨p, 0, none⟩) 2 2 cl s t w (eu_env hE (cl_at hU) (fun j _ => cl_fits j)) (eu_small s hs)
  rw [h1, h2] at this
  exact this
theorem zones_eu (r b p : Nat) (w : World) (hE : Env w (eu r b (-1) old)) (hU : w.heap[p]? = some clC) :
    Calls Tryz.prog 7 #[euV b, .slice (some ⟨p, 0, none⟩) 2 2, .string ⟨#[109, 105, 100]⟩, .int .i64 7] w fun e w' => uznP [[65, 47, 87, 101, 115, 116]] 0 w e w' := by
  have := Zones_c (eu r b (-1) old) (some ⟨p, 0, none⟩) 2 2 cl ⟨#[109, 105, 100]⟩ 7 w (eu_env hE (cl_at hU) (fun j _ => cl_fits j)) (eu_small _ (by decide))
  rw [ub10, ub6] at this
  exact this
theorem ucheck_eu (r b : Nat) (us : Nat → Us) (a : Option Addr) (E : Int) (w : World) (hE : Env w (eu r b (-1) old)) (hU : UAt w a 2 us) (hf : ∀ j, j < 2 → (us j).fits) (h : uchk (eu r b (-1) old) 2 us = E) :
    Calls Tryz.prog 11 #[euV b, .slice a 2 2] w fun e w' => e = .returned (.int .i64 E) ∧ Below w.heap.size w w' := by
  have := (eu_env hE hU hf).check
  rw [h] at this
  exact this
set_option maxRecDepth 100000 in
set_option maxHeartbeats 8000000 in
theorem usesBegun_c (w : World) (hL : Laid w) (hM : Mx w) : Calls Tryz.prog 10 #[] w fun e w' => e = .returned (.bool true) ∧ Below w.heap.size w w' := by
  have HL := hideH hL
  have HM := hideH hM
  clear hL hM
  go_enter Tryz.func10, Tryz.ntmps10
  have H0 := hideH (Below.refl w.heap.size w)
  go_wp2_with fail
  refine (europe_x _).mono ?_
  rintro e a1 ⟨r1, b1, rfl, d1, -, -, hw, -, -⟩
  have H0 := hideH (bthen H0.out hw)
  have D1 := hideH d1
  clear hw d1
  go_wp2_with fail
  refine (called_c _).mono ?_
  rintro e c1 ⟨rfl, hx, hw⟩
  have H0 := hideH (bthen H0.out hw)
  have D1 := hideH (D1.out.on hw)
  have X := hideH hx
  clear hw hx
  go_wp2_with fail
  refine (meta_eu r1 b1 _ ⟨#[84]⟩ 500000000 ⟨#[109, 105, 100]⟩ 0 _ ⟨HL.out.on H0.out, HM.out.on H0.out, D1.out⟩ X.out (by decide) (ub1 r1 b1) (ub2 r1 b1)).mono ?_
  rintro e v1 ⟨rfl, hw⟩
  have H0 := hideH (bthen H0.out hw)
  clear hw D1 X
  go_wp2_with fail
  refine (europe_x _).mono ?_
  rintro e a2 ⟨r2, b2, rfl, d2, -, -, hw, -, -⟩
  have H0 := hideH (bthen H0.out hw)
  have D2 := hideH d2
  clear hw d2
  go_wp2_with fail
  refine (called_c _).mono ?_
  rintro e c2 ⟨rfl, hx, hw⟩
  have H0 := hideH (bthen H0.out hw)
  have D2 := hideH (D2.out.on hw)
  have X := hideH hx
  clear hw hx
  go_wp2_with fail
  refine (meta_eu r2 b2 _ ⟨#[84, 111, 119, 110]⟩ 7 ⟨#[]⟩ 0 _ ⟨HL.out.on H0.out, HM.out.on H0.out, D2.out⟩ X.out (by decide) (ub3 r2 b2) (ub4 r2 b2)).mono ?_
  rintro e v2 ⟨rfl, hw⟩
  have H0 := hideH (bthen H0.out hw)
  clear hw D2 X
  go_wp2_with fail
  refine (europe_x _).mono ?_
  rintro e a3 ⟨r3, b3, rfl, d3, -, -, hw, -, -⟩
  have H0 := hideH (bthen H0.out hw)
  have D3 := hideH d3
  clear hw d3
  go_wp2_with fail
  refine (called_c _).mono ?_
  rintro e c3 ⟨rfl, hx, hw⟩
  have H0 := hideH (bthen H0.out hw)
  have D3 := hideH (D3.out.on hw)
  have X := hideH hx
  clear hw hx
  go_wp2_with fail
  refine (zones_eu r3 b3 _ _ ⟨HL.out.on H0.out, HM.out.on H0.out, D3.out⟩ X.out).mono ?_
  rintro e v3 ⟨a3z, c3z, rfl, _, htx, hw⟩
  have H0 := hideH (bthen H0.out hw)
  have T3 := hideH htx
  clear hw htx D3 X
  go_wp2_with fail
  refine (europe_x _).mono ?_
  rintro e a4 ⟨r4, b4, rfl, d4, -, -, hw, -, -⟩
  have H0 := hideH (bthen H0.out hw)
  have T3 := hideH (T3.out.on hw)
  have D4 := hideH d4
  clear hw d4
  go_wp2_with fail
  refine (called_c _).mono ?_
  rintro e c4 ⟨rfl, hx, hw⟩
  have H0 := hideH (bthen H0.out hw)
  have T3 := hideH (T3.out.on hw)
  have D4 := hideH (D4.out.on hw)
  have X := hideH hx
  clear hw hx
  go_wp2_with fail
  refine (meta_eu r4 b4 _ ⟨#[88]⟩ 7 _ 4 _ ⟨HL.out.on H0.out, HM.out.on H0.out, D4.out⟩ X.out (by decide) rfl (ub5 r4 b4)).mono ?_
  rintro e v4 ⟨rfl, hw⟩
  have H0 := hideH (bthen H0.out hw)
  have T3 := hideH (T3.out.on hw)
  clear hw D4 X
  go_wp2_with fail
  refine (called_c _).mono ?_
  rintro e u9 ⟨rfl, hx, hw⟩
  have hp4 : u9.cell? ⟨v4.heap.size, 4, none⟩ = some (.string ⟨#[65, 47, 87, 101, 115, 116]⟩) := by simp [World.cell?, hx]
  have hp5 : u9.cell? ⟨v4.heap.size, 5, none⟩ = some (.int .i64 0) := by simp [World.cell?, hx]
  have hp6 : u9.cell? ⟨v4.heap.size, 6, none⟩ = some (.int .i64 1000) := by simp [World.cell?, hx]
  have hp7 : u9.cell? ⟨v4.heap.size, 7, none⟩ = some (.string ⟨#[109, 105, 100]⟩) := by simp [World.cell?, hx]
  have g4 := frozenU hx 4
  have g5 := frozenU hx 5
  have g6 := frozenU hx 6
  have g7 := frozenU hx 7
  have hset := setCellU (o := 7) (setCellU (o := 6) (setCellU (o := 5) (setCellU (o := 4) hx (.string ⟨#[69, 47, 79, 108, 100, 95, 84, 111, 119, 110]⟩)) (.int .i64 0)) (.int .i64 500000001)) (.string ⟨#[97]⟩)
  have hbel := (((hw.setCell (p := ⟨v4.heap.size, 4, none⟩) (by simp) (.string ⟨#[69, 47, 79, 108, 100, 95, 84, 111, 119, 110]⟩)).setCell (p := ⟨v4.heap.size, 5, none⟩) (by simp) (.int .i64 0)).setCell (p := ⟨v4.heap.size, 6, none⟩) (by simp) (.int .i64 500000001)).setCell (p := ⟨v4.heap.size, 7, none⟩) (by simp) (.string ⟨#[97]⟩)
  obtain ⟨W5, hW5⟩ : ∃ W5, W5 = ((((u9.setCell ⟨v4.heap.size, 4, none⟩ (.string ⟨#[69, 47, 79, 108, 100, 95, 84, 111, 119, 110]⟩)).setCell ⟨v4.heap.size, 5, none⟩ (.int .i64 0)).setCell ⟨v4.heap.size, 6, none⟩ (.int .i64 500000001)).setCell ⟨v4.heap.size, 7, none⟩ (.string ⟨#[97]⟩)) := ⟨_, rfl⟩
  rw [← hW5] at hset hbel
  have HBL := hideH hbel
  have X9 := hideH hset
  clear hw hx hset hbel
  go_wp2_with fail
  clear hp4 hp5 hp6 hp7 g4 g5 g6 g7
  simp only [← hW5]
  clear hW5
  have H0 := hideH (bthen H0.out HBL.out)
  have T3 := hideH (T3.out.on HBL.out)
  clear HBL
  refine (europe_x _).mono ?_
  rintro e a5 ⟨r5, b5, rfl, d5, -, -, hw, -, -⟩
  have H0 := hideH (bthen H0.out hw)
  have T3 := hideH (T3.out.on hw)
  have X9 := hideH (heap_on X9.out hw)
  have D5 := hideH d5
  clear hw d5
  go_wp2_with fail
  refine (called_c _).mono ?_
  rintro e c5 ⟨rfl, hx, hw⟩
  have H0 := hideH (bthen H0.out hw)
  have T3 := hideH (T3.out.on hw)
  have X9 := hideH (heap_on X9.out hw)
  have D5 := hideH (D5.out.on hw)
  have X := hideH hx
  clear hw hx
  go_wp2_with fail
  refine (ucheck_eu r5 b5 cl _ 0 _ ⟨HL.out.on H0.out, HM.out.on H0.out, D5.out⟩ (cl_at X.out) (fun j _ => cl_fits j) (ub8 r5 b5)).mono ?_
  rintro e v5 ⟨rfl, hw⟩
  have H0 := hideH (bthen H0.out hw)
  have T3 := hideH (T3.out.on hw)
  have X9 := hideH (heap_on X9.out hw)
  clear hw D5 X
  go_wp2_with fail
  refine (europe_x _).mono ?_
  rintro e a6 ⟨r6, b6, rfl, d6, -, -, hw, -, -⟩
  have H0 := hideH (bthen H0.out hw)
  have T3 := hideH (T3.out.on hw)
  have X9 := hideH (heap_on X9.out hw)
  have D6 := hideH d6
  clear hw d6
  go_wp2_with fail
  refine (ucheck_eu r6 b6 cx _ 6 _ ⟨HL.out.on H0.out, HM.out.on H0.out, D6.out⟩ (cx_at X9.out) (fun j _ => cx_fits j) (ub9 r6 b6)).mono ?_
  rintro e v6 ⟨rfl, hw⟩
  have H0 := hideH (bthen H0.out hw)
  have T3 := hideH (T3.out.on hw)
  clear hw D6 X9
  have hbw := hideH ((Below.refl _ v6).alloc (Nat.le_refl _) (.cells #[.string ⟨#[65, 47, 87, 101, 115, 116]⟩] 9))
  have hTW : Hid (TX (v6.alloc (.cells #[.string ⟨#[65, 47, 87, 101, 115, 116]⟩] 9)) (some ⟨v6.heap.size, 0, none⟩) [[65, 47, 87, 101, 115, 116]]) := .inr ⟨v6.heap.size, 0, rfl, fun j hj => by
    obtain rfl : j = 0 := by simpa using hj
    simp⟩
  go_wp2_with fail
  refine (SameTexts_c _ _ _ _ [[65, 47, 87, 101, 115, 116]] [[65, 47, 87, 101, 115, 116]] _ (T3.out.on hbw.out) hTW.out (by decide) (by decide)).mono ?_
  rintro e v7 ⟨rfl, hw⟩
  have H0 := hideH (bthen (bthen H0.out hbw.out) hw)
  clear hw
  go_wp2_with fail
  go_ret
  exact ⟨ret_bool (by simp), H0.out⟩
end Go.Proofs.YtainhpnmgligjaeGreatDoor
