/- What the statements ask of tables in any case: tableBegun answers true. -/
import Derived.Test.YtdffopkljomipaaGreatDoorTableO
import Derived.Test.YtdffopkljomipaaGreatDoorOffBegunAll
namespace Go.Proofs.YtdffopkljomipaaGreatDoor
open Go Go.RowKit Go.Maps
set_option linter.unusedVariables false

set_option maxRecDepth 100000 in
theorem eu_off (r b : Nat) : offR (eu r b (-1) old) 0 1585443600 = ⟨7200, 3600, ⟨#[67, 69, 68, 84]⟩⟩ := by kernel_rfl
theorem luk_none (ts : Nat → Tu) : lukE ts 0 5 = 1 ∧ lukO ts 0 5 = oZ := by
  have h : isTB ts 0 = false := by
    cases e : isTB ts 0 with
    | false => rfl
    | true => exact absurd ((isTB_iff _ _).1 e).1 (Nat.lt_irrefl _)
  have h1 : lukE ts 0 5 = 1 := by
    unfold lukE
    rw [h]
    rfl
  refine ⟨h1, ?_⟩
  unfold lukO
  rw [h1]
  rfl
/-- what Compile answers of europe's Town -/
theorem comp_eu (r b : Nat) (w : World) (hE : Env w (eu r b (-1) old)) :
    Calls Tryz.prog 7 #[.agg #[.slice (some ⟨b, 0, none⟩) 1 1, .slice (some ⟨b + 3, 0, none⟩) 2 2, .slice (some ⟨b + 4, 0, none⟩) 2 2], .string ⟨#[84, 111, 119, 110]⟩] w fun e' w' => ∃ g off c ts, e' = .returned (.tuple #[.slice (some ⟨g, off, none⟩) 90 c, .int .i64 0]) ∧ TuAt w' (some ⟨g, off, none⟩) 90 ts ∧ 90 ≤ c ∧ (ts 0).at_ = 0 ∧ (ts 1).at_ = 500000000 ∧ lukE ts 90 1585443600 = 0 ∧ lukO ts 90 1585443600 = ⟨7200, 3600, ⟨#[67, 69, 68, 84]⟩⟩ ∧ Below w.heap.size w w' := by
  refine (Compile_c (eu r b (-1) old) ⟨#[84, 111, 119, 110]⟩ w hE (eu_fits r b (-1) old old10) (eu_small _ (by decide))).mono ?_
  rintro e w' ⟨hb, ⟨h0, k, v, hk, hkz, rfl, ho⟩ | ⟨h0, _⟩⟩
  · rw [eu_zon] at hk
    obtain rfl : k = 0 := by omega
    have hcap : ∀ a n c, v = .slice a n c → n ≤ c := fun a n c hv => by
      rcases ho.2 with ⟨rfl, h1⟩ | ⟨g, cap, cur, rfl, _, _, hn, _⟩
      · injection hv with e1 e2 e3; omega
      · injection hv with e1 e2 e3; omega
    obtain ⟨a, c, rfl, ht, hm⟩ := tu_own ho
    have hl := (eu_tb r b).1
    have hcap2 := hcap _ _ _ rfl
    clear hcap
    obtain ⟨q1, q2⟩ := cmp_look (eu_ok r b) (k := 0) hkz (t := 1585443600) (by decide)
    have q3 := (eu_tb r b).2
    rw [hl] at ht q1 q2 hcap2 ⊢
    rcases ht with h1 | ⟨g, off, rfl, hcs⟩
    · omega
    exact ⟨g, off, c, _, rfl, .inr ⟨g, off, rfl, hcs⟩, hcap2, q3.1, q3.2, q1, by rw [q2]; exact eu_off r b, hb⟩
  · exact absurd (eu_zonE r b) h0
set_option maxRecDepth 100000 in
set_option maxHeartbeats 4000000 in
theorem tableBegun_c (w : World) (hL : Laid w) (hM : Mx w) : Calls Tryz.prog 11 #[] w fun e w' => e = .returned (.bool true) ∧ Below w.heap.size w w' := by
  have HL := hideH hL
  have HM := hideH hM
  clear hL hM
  go_enter Tryz.func11, Tryz.ntmps11
  have H0 := hideH (Below.refl w.heap.size w)
  go_wp2_with fail
  refine (europe_x _).mono ?_
  rintro e a1 ⟨r1, b1, rfl, d1, -, -, hw, -, -⟩
  have H1 := hideH (bthen H0.out hw)
  have D1 := hideH d1
  clear hw d1
  go_wp2_with fail
  refine (comp_eu r1 b1 _ ⟨HL.out.on H1.out, HM.out.on H1.out, D1.out⟩).mono ?_
  rintro e u1 ⟨g, off, c, ts, rfl, ht, hc, q0, q1, q2, q3, hw⟩
  have H2 := hideH (bthen H1.out hw)
  have HT := hideH ht
  have HQ0 := hideH q0
  have HQ1 := hideH q1
  have HQ2 := hideH q2
  have HQ3 := hideH q3
  clear hw ht q0 q1 q2 q3 D1 H1
  go_wp2_with fail
  refine (Look_c (some ⟨g, off, none⟩) 90 c ts 1585443600 _ (by unfold maxLen; omega) HT.out).mono ?_
  rintro e u2 ⟨rfl, hw⟩
  rw [HQ2.out, HQ3.out]
  have H3 := hideH (bthen H2.out hw)
  have T3 := hideH (HT.out.on hw)
  clear hw HT H2
  obtain ⟨v1, hv1⟩ : ∃ v, v = u2.alloc (.cells #[.int .i64 7200, .int .i64 3600, .string ⟨#[67, 69, 68, 84]⟩] 32) := ⟨_, rfl⟩
  have V1 := hideH ((Below.refl _ u2).alloc (Nat.le_refl _) (.cells #[.int .i64 7200, .int .i64 3600, .string ⟨#[67, 69, 68, 84]⟩] 32))
  rw [← hv1] at V1
  have X1 : Hid (v1.heap[u2.heap.size]? = some (.cells #[.int .i64 7200, .int .i64 3600, .string ⟨#[67, 69, 68, 84]⟩] 32)) := by show _ = _; rw [hv1]; exact World.alloc_heap_new _ _
  have H4 := hideH (bthen H3.out V1.out)
  have T4 := hideH (T3.out.on V1.out)
  have hc0 : ¬ ((c : Int) < 0) := by omega
  go_wp2_with fail
  simp only [← hv1]
  clear hv1 V1 H3 T3
  refine (Look_c (some ⟨g, off, none⟩) 0 c ts 5 _ (by unfold maxLen; omega) (.inl rfl)).mono ?_
  rintro e u3 ⟨rfl, hw⟩
  rw [(luk_none ts).1, (luk_none ts).2]
  have H5 := hideH (bthen H4.out hw)
  have T5 := hideH (T4.out.on hw)
  have X5 := hideH (heap_on X1.out hw)
  clear hw H4 T4 X1
  have V2 := hideH ((Below.refl _ u3).alloc (Nat.le_refl _) (.cells #[.int .i64 0, .int .i64 0, .string ⟨#[]⟩] 32))
  have hlt := (Array.getElem?_eq_some_iff.1 X5.out).1
  obtain ⟨p0, p1, p2⟩ := cells3 X5.out
  rcases T5.out with h0 | ⟨g', off', hg, hcs⟩
  · omega
  obtain ⟨rfl, rfl⟩ : g = g' ∧ off = off' := by simpa using hg
  have k0 := (hcs 0 (by omega)).1
  have k1 := (hcs 1 (by omega)).1
  rw [HQ0.out] at k0
  rw [HQ1.out] at k1
  have hgl : g < u3.heap.size := cell_lt k0
  simp at k0 k1
  clear hcs hg
  simp only [oZ, Of.v]
  go_wp2_with fail
  go_ret
  exact ⟨rfl, bthen H5.out V2.out⟩
end Go.Proofs.YtdffopkljomipaaGreatDoor
