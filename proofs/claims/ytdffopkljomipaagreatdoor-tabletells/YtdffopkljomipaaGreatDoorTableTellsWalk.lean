/- The document's own CompileOf, all of it; the walk of the statement TableTells. -/
import Derived.Test.YtdffopkljomipaaGreatDoorTableT
import Derived.Test.YtdffopkljomipaaGreatDoorTableR
import Derived.Test.YtdffopkljomipaaGreatDoorTableD
import Derived.Test.YtdffopkljomipaaGreatDoorTableE
namespace Go.Proofs.YtdffopkljomipaaGreatDoor
open Go Go.RowKit Go.Maps
set_option linter.unusedVariables false

set_option maxRecDepth 100000 in
set_option maxHeartbeats 4000000 in
theorem CompileOf_no (D : Dt) (s : ByteArray) (w : World) (hD : DAt w D) (hF : D.fits) (hs : s.size ≤ maxLen) (h0 : zonE D s ≠ 0) :
    Calls Tryz.prog 9 #[D.v, .string s] w fun e w' => e = .returned (.tuple #[.slice none 0 0, .int .i64 (zonE D s)]) ∧ Below w.heap.size w w' := by
  have HD := hideH hD
  have hb0 := hideH ((Below.refl _ w).alloc (Nat.le_refl _) (.cells (dC D) 26))
  have HZ := hideH (ZoneOf_c D s _ (HD.out.on hb0.out) hF hs)
  have hne : (zonE D s != 0) = true := by rw [bne_iff_ne]; exact h0
  generalize zonE D s = E at HZ hne
  generalize zonR D s = Z at HZ
  clear hD hF hs h0
  go_enter Tryz.func9, Tryz.ntmps9
  go_wp2_with fail
  refine HZ.out.mono ?_
  rintro e w1 ⟨rfl, hw1⟩
  have H1 := hideH (bthen hb0.out hw1)
  clear hw1 hb0 HZ
  go_wp2_with fail
  go_ret2
  exact ⟨rfl, H1.out⟩
theorem CompileOf_c (D : Dt) (s : ByteArray) (w : World) (hD : DAt w D) (hF : D.fits) (hs : s.size ≤ maxLen) : Calls Tryz.prog 9 #[D.v, .string s] w fun e w' => cpP D s w e w' := by
  by_cases h0 : zonE D s = 0
  · obtain ⟨hc, k, hk, hkz⟩ := zon_ok h0
    refine (CompileOf_ok D s k w hD hF hs h0 hk hkz).mono ?_
    rintro e w' ⟨v, rfl, ho, hb⟩
    exact ⟨hb, .inl ⟨h0, k, v, hk, hkz, rfl, ho⟩⟩
  · refine (CompileOf_no D s w hD hF hs h0).mono ?_
    rintro e w' ⟨rfl, hb⟩
    exact ⟨hb, .inr ⟨h0, rfl⟩⟩
set_option maxRecDepth 100000 in
set_option maxHeartbeats 4000000 in
theorem TableTells_w (D : Dt) (s : ByteArray) (la : Option Addr) (ln lc : Nat) (ts : Nat → Tu) (t : Int) (w : World) (hL : Laid w) (hM : Mx w) (hD : DAt w D) (hF : D.fits) (hs : s.size ≤ maxLen) (hln : ln ≤ maxLen) (hTu : TuAt w la ln ts) (hi : -9223372036854775808 ≤ t ∧ t ≤ 9223372036854775807) :
    Calls Tryz.prog 3 #[D.v, .string s, .slice la ln lc, .int .i64 t] w fun e w' => e = .returned (.bool true) ∧ Below w.heap.size w w' := by
  have HL := hideH hL
  have HM := hideH hM
  have HD := hideH hD
  have HTu := hideH hTu
  have HE : Hid (∀ v : World, Below w.heap.size w v → Env v D) := fun v h => ⟨HL.out.on h, HM.out.on h, HD.out.on h⟩
  have hb0 := hideH ((Below.refl _ w).alloc (Nat.le_refl _) (.cells (dC D) 26))
  have hc0 := hideH (World.alloc_heap_new w (.cells (dC D) 26))
  have HTe : Hid (∃ (n : Nat) (E : Int) (xs : Nat → Tu), (∀ v, Below w.heap.size w v → Calls Tryz.prog 7 #[D.v, .string s] v fun e' v' => ∃ a c, e' = .returned (.tuple #[.slice a n c, .int .i64 E]) ∧ TuAt v' a n xs ∧ n ≤ maxLen ∧ Below v.heap.size v v') ∧ ∀ v, Below w.heap.size w v → Calls Tryz.prog 9 #[D.v, .string s] v fun e' v' => ∃ a c, e' = .returned (.tuple #[.slice a n c, .int .i64 E]) ∧ TuAt v' a n xs ∧ n ≤ maxLen ∧ Below v.heap.size v v') := by
    have key : ∃ (n : Nat) (E : Int) (xs : Nat → Tu), (∀ (v v' : World) (e' : Ending), cpP D s v e' v' → ∃ a c, e' = .returned (.tuple #[.slice a n c, .int .i64 E]) ∧ TuAt v' a n xs ∧ n ≤ maxLen ∧ Below v.heap.size v v') := by
      by_cases h0 : zonE D s = 0
      · obtain ⟨hc, k, hk, hkz⟩ := zon_ok h0
        refine ⟨(cmpT D k).length, 0, tuF (cmpT D k), fun v v' e' h' => ?_⟩
        obtain ⟨hb, ⟨_, k', x, hk', _, rfl, ho⟩ | ⟨h1, _⟩⟩ := h'
        · obtain rfl : k' = k := by omega
          obtain ⟨a, c, rfl, ht, hm⟩ := tu_own ho
          exact ⟨a, c, rfl, ht, hm, hb⟩
        · exact absurd h0 h1
      · refine ⟨0, zonE D s, fun _ => ⟨0, 0, 0, ⟨#[]⟩⟩, fun v v' e' h' => ?_⟩
        obtain ⟨hb, ⟨h1, _⟩ | ⟨_, rfl⟩⟩ := h'
        · exact absurd h1 h0
        · exact ⟨none, 0, rfl, .inl rfl, Nat.zero_le _, hb⟩
    obtain ⟨n, E, xs, hk⟩ := key
    exact ⟨n, E, xs, fun v hv => (Compile_c D s v (HE.out v hv) hF hs).mono fun e' v' h => hk v v' e' h, fun v hv => (CompileOf_c D s v (HD.out.on hv) hF hs).mono fun e' v' h => hk v v' e' h⟩
  obtain ⟨n, E, xs, h1, h2⟩ := HTe.out
  have HC := hideH h1
  have HR := hideH h2
  have HA := hideH (fun v (hv : Below w.heap.size w v) => Look_c la ln lc ts t v hln (HTu.out.on hv))
  have HB := hideH (fun v (hv : Below w.heap.size w v) => LookOf_c la ln lc ts t v hln (HTu.out.on hv))
  have HT := hideH (fun v (hv : Below w.heap.size w v) => tableBegun_c v (HL.out.on hv) (HM.out.on hv))
  generalize lukO ts ln t = R at HA HB
  generalize lukE ts ln t = LE at HA HB
  obtain ⟨rt, rs, ra⟩ := R
  simp only [Of.v] at HA HB
  clear hL hM hD hF hs hi hTu hln HTe h1 h2 HE
  go_enter Tryz.func3, Tryz.ntmps3
  go_wp2_with fail
  refine (HC.out _ hb0.out).mono ?_
  rintro e w1 ⟨a1, c1, rfl, t1, hm, hw1⟩
  have H1 := hideH (bthen hb0.out hw1)
  have C1 := hideH (heap_on hc0.out hw1)
  have T1 := hideH t1
  clear hw1 hb0 hc0 t1
  go_wp2_with fail
  refine (HA.out _ H1.out).mono ?_
  rintro e w2 ⟨rfl, hw2⟩
  have hlw := (Array.getElem?_eq_some_iff.1 (heap_on C1.out hw2)).1
  have V2 := hideH ((Below.refl _ w2).alloc (Nat.le_refl _) (.cells #[.int .i64 rt, .int .i64 rs, .string ra] 32))
  have H2 := hideH (bthen (bthen H1.out hw2) V2.out)
  have C2 := hideH (heap_on (heap_on C1.out hw2) V2.out)
  have T2 := hideH ((T1.out.on hw2).on V2.out)
  have X2 := hideH (World.alloc_heap_new w2 (.cells #[.int .i64 rt, .int .i64 rs, .string ra] 32))
  clear hw2 V2 H1 C1 T1
  obtain ⟨c0, c1', c2⟩ := cells3 C2.out
  go_wp2_with fail
  refine (HR.out _ H2.out).mono ?_
  rintro e w3 ⟨a3, c3, rfl, t3, -, hw3⟩
  have H3 := hideH (bthen H2.out hw3)
  have T3 := hideH (T2.out.on hw3)
  have U3 := hideH t3
  have X3 := hideH (heap_on X2.out hw3)
  clear hw3 H2 C2 T2 X2 c0 c1' c2 hlw t3
  go_wp2_with fail
  refine (HB.out _ H3.out).mono ?_
  rintro e w4 ⟨rfl, hw4⟩
  have V4 := hideH ((Below.refl _ w4).alloc (Nat.le_refl _) (.cells #[.int .i64 rt, .int .i64 rs, .string ra] 32))
  have H4 := hideH (bthen (bthen H3.out hw4) V4.out)
  have T4 := hideH ((T3.out.on hw4).on V4.out)
  have U4 := hideH ((U3.out.on hw4).on V4.out)
  have X4 := hideH (heap_on (heap_on X3.out hw4) V4.out)
  have Y4 := hideH (World.alloc_heap_new w4 (.cells #[.int .i64 rt, .int .i64 rs, .string ra] 32))
  clear hw4 V4 H3 T3 U3 X3
  go_wp2_with fail
  refine (HT.out _ H4.out).mono ?_
  rintro e w5 ⟨rfl, hw5⟩
  have H5 := hideH (bthen H4.out hw5)
  have T5 := hideH (T4.out.on hw5)
  have U5 := hideH (U4.out.on hw5)
  have X5 := hideH (heap_on X4.out hw5)
  have Y5 := hideH (heap_on Y4.out hw5)
  clear hw5 H4 T4 U4 X4 Y4
  go_wp2_with fail
  refine (SameTurns_c a1 a3 n c1 c3 xs _ hm T5.out U5.out).mono ?_
  rintro e w6 ⟨rfl, hw6⟩
  have H6 := hideH (bthen H5.out hw6)
  obtain ⟨p0, p1, p2⟩ := cells3 (heap_on X5.out hw6)
  obtain ⟨q0, q1, q2⟩ := cells3 (heap_on Y5.out hw6)
  clear hw6 H5 T5 U5 X5 Y5
  go_wp2_with fail
  go_ret
  exact ⟨rfl, H6.out⟩
end Go.Proofs.YtdffopkljomipaaGreatDoor
