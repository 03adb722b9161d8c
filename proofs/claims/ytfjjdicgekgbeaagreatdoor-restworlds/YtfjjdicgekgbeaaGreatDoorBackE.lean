/- backBegun. -/
import Derived.Test.YtfjjdicgekgbeaaGreatDoorBackCAll
import Derived.Test.YtfjjdicgekgbeaaGreatDoorUsesGAll
namespace Go.Proofs.YtfjjdicgekgbeaaGreatDoor
open Go Go.RowKit Go.Maps
set_option linter.unusedVariables false

def wdL (ss : Nat → ByteArray) (n : Nat) : List (List UInt8) := (List.range n).map fun j => (ss j).data.toList
theorem srw_enc (ss : Nat → ByteArray) (n : Nat) : srw ss n = (wdL ss n).map encStr := by
  unfold srw wdL
  rw [List.map_map]
  refine List.map_congr_left fun j _ => ?_
  exact (enc_nm (ss j)).symm
theorem wdL_len (ss : Nat → ByteArray) (n : Nat) : (wdL ss n).length = n := by simp [wdL]
abbrev rootB : ByteArray := ⟨#[114, 111, 111, 116]⟩
set_option maxRecDepth 100000 in
theorem gb0 (r b u k l s : Nat) : bwE (glb r b u k l s) rootB 600000000 3 = 0 := by kernel_rfl
set_option maxRecDepth 100000 in
theorem gb1 (r b u k l s : Nat) : wdL (wsB (glb r b u k l s) rootB 600000000 3) 2 = [[77, 83, 84], [71, 77, 84, 45, 52]] := by kernel_rfl
set_option maxRecDepth 100000 in
theorem gb2 (r b u k l s : Nat) : prN (glb r b u k l s) rootB 600000000 3 ⟨#[77, 83, 84, 120]⟩ = 3 := by kernel_rfl
set_option maxRecDepth 100000 in
theorem gb3 (r b u k l s : Nat) : prN (glb r b u k l s) rootB 600000000 3 ⟨#[120]⟩ = 0 := by kernel_rfl
set_option maxRecDepth 100000 in
theorem gb4 (r b u k l s : Nat) : clL (glb r b u k l s).D (wsB (glb r b u k l s) rootB 600000000 3) [77, 83, 84] 2 = [[69, 47, 79, 108, 100, 95, 84, 111, 119, 110]] := by kernel_rfl
set_option maxRecDepth 100000 in
theorem gb5 (r b u k l s : Nat) : clL (glb r b u k l s).D (wsB (glb r b u k l s) rootB 600000000 3) [] 2 = [] := by kernel_rfl
theorem gb6 (r b u k l s : Nat) : prL (glb r b u k l s) rootB 600000000 3 ⟨#[77, 83, 84, 120]⟩ = [[69, 47, 79, 108, 100, 95, 84, 111, 119, 110]] := by
  unfold prL
  rw [gb2]
  show srt (clL (glb r b u k l s).D (wsB (glb r b u k l s) rootB 600000000 3) [77, 83, 84] 2) = _
  rw [gb4]
  simp [srt]
theorem gb7 (r b u k l s : Nat) : prL (glb r b u k l s) rootB 600000000 3 ⟨#[120]⟩ = [] := by
  unfold prL
  rw [gb3]
  show srt (clL (glb r b u k l s).D (wsB (glb r b u k l s) rootB 600000000 3) [] 2) = _
  rw [gb5]
  simp [srt]
theorem glW (r b u k l s : Nat) (w : World) (hE : NEnv w (glb r b u k l s)) : Calls Tryz.prog 7 #[glV b u s, .string rootB, .int .i64 600000000, .int .i64 3] w fun e w' => ∃ a c, e = .returned (.tuple #[.slice a 2 c, .int .i64 0]) ∧ TX w' a [[77, 83, 84], [71, 77, 84, 45, 52]] ∧ Below w.heap.size w w' := by
  refine (Words_ok (gb0 r b u k l s) w hE).mono ?_
  rintro e w' ⟨a, c, rfl, hc, ht, ho, hb⟩
  have ho2 : w'.ownsRow w.heap.size 9 1 (.slice a 2 c) 2 (srw (wsB (glb r b u k l s) rootB 600000000 3) 2) := ho
  rw [srw_enc, gb1] at ho2
  obtain ⟨a2, c2, hv, hc2, htx⟩ := TX_own (l := [[77, 83, 84], [71, 77, 84, 45, 52]]) rfl ho2
  cases hv
  exact ⟨a, c, rfl, htx, hb⟩
theorem Parse_ok {X : Wd} {loc s : ByteArray} {t p : Int} (h : bwE X loc t p = 0) (w : World) (hE : NEnv w X) (hs : s.size ≤ maxLen) : Calls Tryz.prog 18 #[X.v, .string loc, .string s, .int .i64 t, .int .i64 p] w fun e w' => ∃ a c, e = .returned (.tuple #[.int .i64 (prN X loc t p s), .slice a (prL X loc t p s).length c, .int .i64 0]) ∧ (prL X loc t p s).length ≤ c ∧ TX w' a (prL X loc t p s) ∧ w'.ownsRow w.heap.size 9 1 (.slice a (prL X loc t p s).length c) (prL X loc t p s).length ((prL X loc t p s).map encStr) ∧ Below w.heap.size w w' := by
  refine (Parse_c X loc s t p w hE hs).mono ?_
  rintro e w' ⟨hb, ⟨h1, _⟩ | ⟨_, v, rfl, ho⟩⟩
  · exact absurd h h1
  · obtain ⟨a, c, rfl, hc, ht⟩ := TX_own rfl ho
    exact ⟨a, c, rfl, hc, ht, ho, hb⟩
theorem Parse_no {X : Wd} {loc s : ByteArray} {t p : Int} (h : bwE X loc t p ≠ 0) (w : World) (hE : NEnv w X) (hs : s.size ≤ maxLen) : Calls Tryz.prog 18 #[X.v, .string loc, .string s, .int .i64 t, .int .i64 p] w fun e w' => e = .returned (.tuple #[.int .i64 0, .slice none 0 0, .int .i64 (bwE X loc t p)]) ∧ Below w.heap.size w w' := by
  refine (Parse_c X loc s t p w hE hs).mono ?_
  rintro e w' ⟨hb, ⟨_, rfl⟩ | ⟨h1, _⟩⟩
  · exact ⟨rfl, hb⟩
  · exact absurd h1 h
theorem glP (r b u k l s : Nat) (q : ByteArray) (n : Nat) (L : List (List UInt8)) (w : World) (hE : NEnv w (glb r b u k l s)) (hq : q.size ≤ 10) (h1 : prN (glb r b u k l s) rootB 600000000 3 q = n) (h2 : prL (glb r b u k l s) rootB 600000000 3 q = L) : Calls Tryz.prog 18 #[glV b u s, .string rootB, .string q, .int .i64 600000000, .int .i64 3] w fun e w' => ∃ a c, e = .returned (.tuple #[.int .i64 n, .slice a L.length c, .int .i64 0]) ∧ TX w' a L ∧ Below w.heap.size w w' := by
  refine (Parse_ok (s := q) (gb0 r b u k l s) w hE (by unfold maxLen; omega)).mono ?_
  rw [h1, h2]
  rintro e w' ⟨a, c, rfl, hc, ht, ho, hb⟩
  exact ⟨a, c, rfl, ht, hb⟩
theorem tx_two (w : World) (x y : ByteArray) : TX (w.alloc (.cells #[.string x, .string y] 9)) (some ⟨w.heap.size, 0, none⟩) [x.data.toList, y.data.toList] := by
  refine .inr ⟨_, 0, rfl, fun j hj => ?_⟩
  match j, hj with
  | 0, _ => simp [enc_nm]
  | 1, _ => simp [enc_nm]
theorem tx_one (w : World) (x : ByteArray) : TX (w.alloc (.cells #[.string x] 9)) (some ⟨w.heap.size, 0, none⟩) [x.data.toList] := by
  refine .inr ⟨_, 0, rfl, fun j hj => ?_⟩
  match j, hj with
  | 0, _ => simp [enc_nm]
set_option maxRecDepth 100000 in
set_option maxHeartbeats 8000000 in
theorem backBegun_c (w : World) (hL : Laid w) (hM : Mx w) : Calls Tryz.prog 5 #[] w fun e w' => e = .returned (.bool true) ∧ Below w.heap.size w w' := by
  have HL := hideH hL
  have HM := hideH hM
  clear hL hM
  have H0 := hideH (Below.refl w.heap.size w)
  go_enter Tryz.func5, Tryz.ntmps5
  go_wp2_with fail
  refine (globe_c _ (HL.out.on H0.out) (HM.out.on H0.out)).mono ?_
  rintro e v1 ⟨r, b, u, k, l, s, rfl, hE, hw⟩
  have H0 := hideH (bthen H0.out hw)
  have E0 := hideH hE
  clear hw hE
  go_wp2_with fail
  refine (glW r b u k l s _ E0.out).mono ?_
  rintro e x1 ⟨a1, c1, rfl, ht, hw⟩
  have H0 := hideH (bthen H0.out hw)
  have T1 := hideH ht
  clear hw E0 ht
  go_wp2_with fail
  refine (globe_c _ (HL.out.on H0.out) (HM.out.on H0.out)).mono ?_
  rintro e v2 ⟨r, b, u, k, l, s, rfl, hE, hw⟩
  have H0 := hideH (bthen H0.out hw)
  have T1 := hideH (T1.out.on hw)
  have E0 := hideH hE
  clear hw hE
  go_wp2_with fail
  refine (glP r b u k l s ⟨#[77, 83, 84, 120]⟩ 3 _ _ E0.out (by decide) (gb2 r b u k l s) (gb6 r b u k l s)).mono ?_
  rintro e x2 ⟨a2, c2, rfl, ht, hw⟩
  have H0 := hideH (bthen H0.out hw)
  have T1 := hideH (T1.out.on hw)
  have T2 := hideH ht
  clear hw E0 ht
  go_wp2_with fail
  refine (globe_c _ (HL.out.on H0.out) (HM.out.on H0.out)).mono ?_
  rintro e v3 ⟨r, b, u, k, l, s, rfl, hE, hw⟩
  have H0 := hideH (bthen H0.out hw)
  have T1 := hideH (T1.out.on hw)
  have T2 := hideH (T2.out.on hw)
  have E0 := hideH hE
  clear hw hE
  go_wp2_with fail
  refine (glP r b u k l s ⟨#[120]⟩ 0 _ _ E0.out (by decide) (gb3 r b u k l s) (gb7 r b u k l s)).mono ?_
  rintro e x3 ⟨a3, c3, rfl, ht, hw⟩
  have H0 := hideH (bthen H0.out hw)
  have T1 := hideH (T1.out.on hw)
  have T2 := hideH (T2.out.on hw)
  clear hw E0 ht
  have bA := (Below.refl _ x3).alloc (Nat.le_refl _) (.cells #[.string ⟨#[77, 83, 84]⟩, .string ⟨#[71, 77, 84, 45, 52]⟩] 9)
  have HS1 : Hid (Calls Tryz.prog 11 #[.slice a1 2 c1, .slice (some ⟨x3.heap.size, 0, none⟩) 2 2] (x3.alloc (.cells #[.string ⟨#[77, 83, 84]⟩, .string ⟨#[71, 77, 84, 45, 52]⟩] 9)) fun e w' => e = .returned (.bool true) ∧ Below (x3.alloc (.cells #[.string ⟨#[77, 83, 84]⟩, .string ⟨#[71, 77, 84, 45, 52]⟩] 9)).heap.size (x3.alloc (.cells #[.string ⟨#[77, 83, 84]⟩, .string ⟨#[71, 77, 84, 45, 52]⟩] 9)) w') := SameTexts_c a1 (some ⟨x3.heap.size, 0, none⟩) c1 2 [[77, 83, 84], [71, 77, 84, 45, 52]] [[77, 83, 84], [71, 77, 84, 45, 52]] _ (T1.out.on bA) (tx_two x3 ⟨#[77, 83, 84]⟩ ⟨#[71, 77, 84, 45, 52]⟩) (by decide) (by decide)
  have HA := hideH bA
  clear bA
  go_wp2_with fail
  refine HS1.out.mono ?_
  rintro e x4 ⟨rfl, hw⟩
  have H0 := hideH (bthen (bthen H0.out HA.out) hw)
  have T2 := hideH ((T2.out.on HA.out).on hw)
  clear hw HS1 HA T1
  have bB := (Below.refl _ x4).alloc (Nat.le_refl _) (.cells #[.string ⟨#[69, 47, 79, 108, 100, 95, 84, 111, 119, 110]⟩] 9)
  have HS2 : Hid (Calls Tryz.prog 11 #[.slice a2 1 c2, .slice (some ⟨x4.heap.size, 0, none⟩) 1 1] (x4.alloc (.cells #[.string ⟨#[69, 47, 79, 108, 100, 95, 84, 111, 119, 110]⟩] 9)) fun e w' => e = .returned (.bool true) ∧ Below (x4.alloc (.cells #[.string ⟨#[69, 47, 79, 108, 100, 95, 84, 111, 119, 110]⟩] 9)).heap.size (x4.alloc (.cells #[.string ⟨#[69, 47, 79, 108, 100, 95, 84, 111, 119, 110]⟩] 9)) w') := SameTexts_c a2 (some ⟨x4.heap.size, 0, none⟩) c2 1 [[69, 47, 79, 108, 100, 95, 84, 111, 119, 110]] [[69, 47, 79, 108, 100, 95, 84, 111, 119, 110]] _ (T2.out.on bB) (tx_one x4 ⟨#[69, 47, 79, 108, 100, 95, 84, 111, 119, 110]⟩) (by decide) (by decide)
  have HA := hideH bB
  clear bB
  go_wp2_with fail
  refine HS2.out.mono ?_
  rintro e x5 ⟨rfl, hw⟩
  have H0 := hideH (bthen (bthen H0.out HA.out) hw)
  clear hw HS2 HA T2
  go_wp2_with fail
  go_ret
  exact ⟨rfl, H0.out⟩
end Go.Proofs.YtfjjdicgekgbeaaGreatDoor
