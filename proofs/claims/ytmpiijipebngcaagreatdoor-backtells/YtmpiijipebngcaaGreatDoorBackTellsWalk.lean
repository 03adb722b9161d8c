/- The walk of the statement BackTells: it returns true, and nothing that lay in memory has turned. -/
import Derived.Test.YtmpiijipebngcaaGreatDoorBackE
import Derived.Test.YtmpiijipebngcaaGreatDoorBackFAll
namespace Go.Proofs.YtmpiijipebngcaaGreatDoor
open Go Go.RowKit Go.Maps
set_option linter.unusedVariables false

theorem RParse_ok {X : Wd} {loc s : ByteArray} {t p : Int} (h : bwE X loc t p = 0) (w : World) (hE : NEnv w X) (hs : s.size ≤ maxLen) : Calls Tryz.prog 25 #[X.v, .string loc, .string s, .int .i64 t, .int .i64 p] w fun e w' => ∃ a c, e = .returned (.tuple #[.int .i64 (prN X loc t p s), .slice a (prL X loc t p s).length c, .int .i64 0]) ∧ TX w' a (prL X loc t p s) ∧ Below w.heap.size w w' := by
  refine (ParseOf_c X loc s t p w hE hs).mono ?_
  rintro e w' ⟨hb, ⟨h1, _⟩ | ⟨_, a, c, rfl, ht⟩⟩
  · exact absurd h h1
  · exact ⟨a, c, rfl, ht, hb⟩
theorem RParse_no {X : Wd} {loc s : ByteArray} {t p : Int} (h : bwE X loc t p ≠ 0) (w : World) (hE : NEnv w X) (hs : s.size ≤ maxLen) : Calls Tryz.prog 25 #[X.v, .string loc, .string s, .int .i64 t, .int .i64 p] w fun e w' => e = .returned (.tuple #[.int .i64 0, .slice none 0 0, .int .i64 (bwE X loc t p)]) ∧ Below w.heap.size w w' := by
  refine (ParseOf_c X loc s t p w hE hs).mono ?_
  rintro e w' ⟨hb, ⟨_, rfl⟩ | ⟨h1, _⟩⟩
  · exact ⟨rfl, hb⟩
  · exact absurd h1 h
theorem own_tx {w : World} {base n c : Nat} {a : Option Addr} {ss : Nat → ByteArray} (h : w.ownsRow base 9 1 (.slice a n c) n (srw ss n)) : TX w a (wdL ss n) := by
  rw [srw_enc] at h
  obtain ⟨a2, c2, hv, hc2, htx⟩ := TX_own (wdL_len ss n).symm h
  obtain ⟨rfl, _, rfl⟩ := Value.slice.inj hv
  exact htx
theorem same_true (a1 a2 : Option Addr) (c1 c2 : Nat) (l : List (List UInt8)) (w : World) (h1 : TX w a1 l) (h2 : TX w a2 l) (n1 : l.length ≤ 1000) : Calls Tryz.prog 27 #[.slice a1 l.length c1, .slice a2 l.length c2] w fun e w' => e = .returned (.bool true) ∧ Below w.heap.size w w' := by
  have := SameTexts_c a1 a2 c1 c2 l l w h1 h2 n1 n1
  rw [decide_eq_true rfl] at this
  exact this
theorem prL_len {X : Wd} {loc : ByteArray} {t p : Int} (h : bwE X loc t p = 0) (s : ByteArray) : (prL X loc t p s).length ≤ 5 := by
  unfold prL
  have e : (srt (clL X.D (wsB X loc t p) (List.take (prN X loc t p s) s.data.toList) X.D.nz)).length = (clL X.D (wsB X loc t p) (List.take (prN X loc t p s) s.data.toList) X.D.nz).length := List.length_mergeSort _
  rw [e]
  have h1 := clL_len X.D (wsB X loc t p) (List.take (prN X loc t p s) s.data.toList) X.D.nz
  have h2 := ws_nz h
  omega
set_option maxRecDepth 100000 in
set_option maxHeartbeats 8000000 in
theorem BackTells_w (X : Wd) (loc s : ByteArray) (t p : Int) (w : World) (hE : NEnv w X) (hs0 : loc.size ≤ maxLen) (hs1 : s.size ≤ maxLen) (ht : -9223372036854775808 ≤ t ∧ t ≤ 9223372036854775807) (hp : -9223372036854775808 ≤ p ∧ p ≤ 9223372036854775807) : Calls Tryz.prog 7 #[X.v, .string loc, .string s, .int .i64 t, .int .i64 p] w fun e w' => e = .returned (.bool true) ∧ Below w.heap.size w w' := by
  have HE := hideH hE
  have HB := hideH ((Below.refl _ w).alloc (Nat.le_refl _) (.cells X.cs 30))
  have HX := hideH (World.alloc_heap_new w (.cells X.cs 30))
  obtain ⟨c0, c1, c2, c3, c4⟩ := cells5n HX.out
  have HG := hideH (fun v (hv : Below w.heap.size w v) => backBegun_c v (HE.out.on hv).ue.env.laid (HE.out.on hv).ue.env.mx)
  by_cases h : bwE X loc t p = 0
  · have HW1 := hideH (fun v (hv : Below w.heap.size w v) => Words_ok h v (HE.out.on hv))
    have HW2 := hideH (fun v (hv : Below w.heap.size w v) => RWords_ok h v (HE.out.on hv))
    have HP1 := hideH (fun v (hv : Below w.heap.size w v) => Parse_ok (s := s) h v (HE.out.on hv) hs1)
    have HP2 := hideH (fun v (hv : Below w.heap.size w v) => RParse_ok (s := s) h v (HE.out.on hv) hs1)
    have HS1 : Hid (∀ a1 a2 c1 c2 v, TX v a1 (wdL (wsB X loc t p) X.D.nz) → TX v a2 (wdL (wsB X loc t p) X.D.nz) → Calls Tryz.prog 27 #[.slice a1 X.D.nz c1, .slice a2 X.D.nz c2] v fun e w' => e = .returned (.bool true) ∧ Below v.heap.size v w') := fun a1 a2 c1 c2 v h1 h2 => by
      have := same_true a1 a2 c1 c2 (wdL (wsB X loc t p) X.D.nz) v h1 h2 (by rw [wdL_len]; have := ws_nz h; omega)
      rw [wdL_len] at this
      exact this
    have HS2 := hideH (fun a1 a2 c1 c2 v h1 h2 => same_true a1 a2 c1 c2 (prL X loc t p s) v h1 h2 (by have := prL_len h s; omega))
    clear h hE
    generalize wsB X loc t p = ss at *
    generalize prL X loc t p s = PL at *
    generalize prN X loc t p s = PN at *
    go_enter Tryz.func7, Tryz.ntmps7
    go_wp2_with fail
    refine (HW1.out _ HB.out).mono ?_
    rintro e w1 ⟨a1, k1, rfl, -, -, ho, hw⟩
    have H1 := hideH (bthen HB.out hw)
    have C1 := hideH (heap_on HX.out hw)
    have T1 := hideH (own_tx ho)
    clear hw ho c0 c1 c2 c3 c4 HX HB HW1
    obtain ⟨c0, c1, c2, c3, c4⟩ := cells5n C1.out
    go_wp2_with fail
    refine (HP1.out _ H1.out).mono ?_
    rintro e w2 ⟨a2, k2, rfl, -, ht2, -, hw⟩
    have H2 := hideH (bthen H1.out hw)
    have C2 := hideH (heap_on C1.out hw)
    have T2 := hideH (T1.out.on hw)
    have U2 := hideH ht2
    clear hw ht2 c0 c1 c2 c3 c4 H1 C1 T1 HP1
    obtain ⟨c0, c1, c2, c3, c4⟩ := cells5n C2.out
    go_wp2_with fail
    refine (HW2.out _ H2.out).mono ?_
    rintro e w3 ⟨a3, k3, rfl, -, -, ho, hw⟩
    have H3 := hideH (bthen H2.out hw)
    have C3 := hideH (heap_on C2.out hw)
    have T3 := hideH (T2.out.on hw)
    have U3 := hideH (U2.out.on hw)
    have V3 := hideH (own_tx ho)
    clear hw ho c0 c1 c2 c3 c4 H2 C2 T2 U2 HW2
    obtain ⟨c0, c1, c2, c3, c4⟩ := cells5n C3.out
    go_wp2_with fail
    refine (HP2.out _ H3.out).mono ?_
    rintro e w4 ⟨a4, k4, rfl, ht4, hw⟩
    have H4 := hideH (bthen H3.out hw)
    have T4 := hideH (T3.out.on hw)
    have U4 := hideH (U3.out.on hw)
    have V4 := hideH (V3.out.on hw)
    have Z4 := hideH ht4
    clear hw ht4 c0 c1 c2 c3 c4 H3 C3 T3 U3 V3 HP2
    go_wp2_with fail
    refine (HG.out _ H4.out).mono ?_
    rintro e w5 ⟨rfl, hw⟩
    have H5 := hideH (bthen H4.out hw)
    have T5 := hideH (T4.out.on hw)
    have U5 := hideH (U4.out.on hw)
    have V5 := hideH (V4.out.on hw)
    have Z5 := hideH (Z4.out.on hw)
    clear hw H4 T4 U4 V4 Z4
    go_wp2_with fail
    refine (HS1.out _ _ _ _ _ T5.out V5.out).mono ?_
    rintro e w6 ⟨rfl, hw⟩
    have H6 := hideH (bthen H5.out hw)
    have U6 := hideH (U5.out.on hw)
    have Z6 := hideH (Z5.out.on hw)
    clear hw H5 T5 U5 V5 Z5
    go_wp2_with fail
    refine (HS2.out _ _ _ _ _ U6.out Z6.out).mono ?_
    rintro e w7 ⟨rfl, hw⟩
    have H7 := hideH (bthen H6.out hw)
    clear hw
    go_wp2_with fail
    go_ret
    exact ⟨ret_bool (by simp), H7.out⟩
  · have HW1 := hideH (fun v (hv : Below w.heap.size w v) => Words_no h v (HE.out.on hv))
    have HW2 := hideH (fun v (hv : Below w.heap.size w v) => RWords_no h v (HE.out.on hv))
    have HP1 := hideH (fun v (hv : Below w.heap.size w v) => Parse_no (s := s) h v (HE.out.on hv) hs1)
    have HP2 := hideH (fun v (hv : Below w.heap.size w v) => RParse_no (s := s) h v (HE.out.on hv) hs1)
    have HS1 := hideH (fun v => same_true none none 0 0 [] v (.inl rfl) (.inl rfl) (by decide))
    clear h hE
    generalize bwE X loc t p = K at *
    go_enter Tryz.func7, Tryz.ntmps7
    go_wp2_with fail
    refine (HW1.out _ HB.out).mono ?_
    rintro e w1 ⟨rfl, hw⟩
    have H1 := hideH (bthen HB.out hw)
    have C1 := hideH (heap_on HX.out hw)
    clear hw c0 c1 c2 c3 c4 HX HB HW1
    obtain ⟨c0, c1, c2, c3, c4⟩ := cells5n C1.out
    go_wp2_with fail
    refine (HP1.out _ H1.out).mono ?_
    rintro e w2 ⟨rfl, hw⟩
    have H2 := hideH (bthen H1.out hw)
    have C2 := hideH (heap_on C1.out hw)
    clear hw c0 c1 c2 c3 c4 H1 C1 HP1
    obtain ⟨c0, c1, c2, c3, c4⟩ := cells5n C2.out
    go_wp2_with fail
    refine (HW2.out _ H2.out).mono ?_
    rintro e w3 ⟨rfl, hw⟩
    have H3 := hideH (bthen H2.out hw)
    have C3 := hideH (heap_on C2.out hw)
    clear hw c0 c1 c2 c3 c4 H2 C2 HW2
    obtain ⟨c0, c1, c2, c3, c4⟩ := cells5n C3.out
    go_wp2_with fail
    refine (HP2.out _ H3.out).mono ?_
    rintro e w4 ⟨rfl, hw⟩
    have H4 := hideH (bthen H3.out hw)
    clear hw c0 c1 c2 c3 c4 H3 C3 HP2
    go_wp2_with fail
    refine (HG.out _ H4.out).mono ?_
    rintro e w5 ⟨rfl, hw⟩
    have H5 := hideH (bthen H4.out hw)
    clear hw H4
    go_wp2_with fail
    refine (HS1.out _).mono ?_
    rintro e w6 ⟨rfl, hw⟩
    have H6 := hideH (bthen H5.out hw)
    clear hw H5
    go_wp2_with fail
    refine (HS1.out _).mono ?_
    rintro e w7 ⟨rfl, hw⟩
    have H7 := hideH (bthen H6.out hw)
    clear hw
    go_wp2_with fail
    go_ret
    exact ⟨ret_bool (by simp), H7.out⟩
end Go.Proofs.YtmpiijipebngcaaGreatDoor
