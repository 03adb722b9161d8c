/- What the statements ask of zones as text in any case: sourceBegun answers true. -/
import Derived.Test.YtbpdbggojgijiaaGreatDoorSourceUAll
import Derived.Test.YtbpdbggojgijiaaGreatDoorDataBegunAll
import Derived.Test.YtbpdbggojgijiaaGreatDoorSrcRB
import Derived.Deep.RegionHeld3
import Derived.Deep.RegionHeldLaw
namespace Go.Proofs.YtbpdbggojgijiaaGreatDoor.Src
open Go Go.RowKit Go.Maps
set_option linter.unusedVariables false
set_option linter.unusedSimpArgs false

set_option maxRecDepth 100000 in
theorem eu_len (r b : Nat) : (showD (eu r b (-1) old)).length = 227 := by kernel_rfl
set_option maxRecDepth 100000 in
theorem eu_head (r b : Nat) : (showD (eu r b (-1) old)).take 7 = [115, 101, 116, 32, 101, 117, 10] := by kernel_rfl
theorem same_chk {D E : Dt} (h : pdOf E = pdOf D) : chkE E = chkE D := chk_same (same_pd h)
theorem same_show {D E : Dt} (h : pdOf E = pdOf D) : showD E = showD D := by rw [show_eq, show_eq, h]
/-- what right data are shown as is read as they were -/
theorem read_back {D : Dt} {e : Ending} {w' : World} (hc : chkE D = 0) (hl : (showD D).length ≤ 4096) (h : rdQ (showD D) e w') : ∃ E : Dt, e = .returned (.tuple #[E.v, .int .i64 0]) ∧ DAt w' E ∧ E.fits ∧ pdOf E = pdOf D := by
  rcases h with ⟨h1, _⟩ | ⟨_, E, hd, hf, hp, h⟩
  · omega
  · rw [back_D hc] at hp
    rcases h with ⟨_, _, rfl⟩ | ⟨hn, _⟩
    · exact ⟨E, rfl, hd, hf, hp⟩
    · exact absurd ⟨(same_chk hp).trans hc, same_show hp⟩ hn
theorem guess_x : guessP numA [115, 101, 116, 32, 120, 10] = ⟨[([120], [])], [], []⟩ := by rfl
theorem read_x {e : Ending} {w' : World} (h : rdQ [115, 101, 116, 32, 120, 10] e w') : e = .returned (.tuple #[zD, .int .i64 1]) := by
  rcases h with ⟨h1, _⟩ | ⟨_, E, hd, hf, hp, h⟩
  · simp at h1
  · rcases h with ⟨hc, _, _⟩ | ⟨_, rfl⟩
    · exfalso
      have h2 := (chk_all hc).1.2.1
      rw [guess_x] at hp
      have h3 := congrArg PD.sets hp
      simp only [pdOf] at h3
      have hn : E.ns = 1 := by simpa using congrArg List.length h3
      have h4 := congrArg (fun l => l[0]?) h3
      simp [hn] at h4
      have := (h2 0 (by omega)).1
      omega
    · rfl
theorem eu_pd (r b r' b' : Nat) : pdOf (eu r b (-1) old) = pdOf (eu r' b' (-1) old) := rfl
def euX : By := showD (eu 0 0 (-1) old)
theorem show_eu (r b : Nat) (w : World) (hE : SrE w) (hD : DAt w (eu r b (-1) old)) :
    Calls Tryz.prog 5 #[.agg #[.slice (some ⟨b, 0, none⟩) 1 1, .slice (some ⟨b + 3, 0, none⟩) 2 2, .slice (some ⟨b + 4, 0, none⟩) 2 2]] w fun e w' => e = .returned (.tuple #[.string ⟨euX.toArray⟩, .int .i64 0]) ∧ Below w.heap.size w w' := by
  have h := Show_c (eu r b (-1) old) w hE hD (eu_fits r b (-1) old old10)
  have e : shT (eu r b (-1) old) = euX := by
    unfold shT
    rw [if_pos (eu_ok r b)]
    exact same_show (eu_pd r b 0 0)
  rw [e, eu_ok] at h
  exact h
theorem same_eu (E : Dt) (r b : Nat) (w : World) (hE : DAt w E) (hF : E.fits) (hp : pdOf E = pdOf (eu 0 0 (-1) old)) (hD : DAt w (eu r b (-1) old)) :
    Calls Tryz.prog 10 #[.agg #[.slice E.sa E.ns E.sc, .slice E.za E.nz E.zc, .slice E.la E.nl E.lc], .agg #[.slice (some ⟨b, 0, none⟩) 1 1, .slice (some ⟨b + 3, 0, none⟩) 2 2, .slice (some ⟨b + 4, 0, none⟩) 2 2]] w fun e w' => e = .returned (.bool true) ∧ Below w.heap.size w w' :=
  SameData_c E (eu r b (-1) old) w hE hD hF (same_pd ((eu_pd r b 0 0).trans hp.symm))
set_option maxRecDepth 100000 in
set_option maxHeartbeats 4000000 in
theorem sourceBegun_c (w : World) (hE : SrE w) : Calls Tryz.prog 9 #[] w fun e w' => e = .returned (.bool true) ∧ Below w.heap.size w w' := by
  have HE := hideS hE
  have H0 := hideS (Below.refl w.heap.size w)
  clear hE
  have HX : Hid (euX = showD (eu 0 0 (-1) old)) := rfl
  have HX1 : Hid (euX.length = 227) := eu_len 0 0
  have HX2 : Hid (euX.take 7 = [115, 101, 116, 32, 101, 117, 10]) := eu_head 0 0
  have HSh : Hid (∀ (r b : Nat) (v : World), SrE v → DAt v (eu r b (-1) old) → Calls Tryz.prog 5 #[.agg #[.slice (some ⟨b, 0, none⟩) 1 1, .slice (some ⟨b + 3, 0, none⟩) 2 2, .slice (some ⟨b + 4, 0, none⟩) 2 2]] v fun e w' => e = .returned (.tuple #[.string ⟨euX.toArray⟩, .int .i64 0]) ∧ Below v.heap.size v w') := fun r b v h1 h2 => show_eu r b v h1 h2
  obtain ⟨X, hX⟩ : ∃ X, X = euX := ⟨_, rfl⟩
  rw [← hX] at HX HX1 HX2 HSh
  clear hX
  go_enter Tryz.func9, Tryz.ntmps9
  go_wp2_with fail
  refine (europe_x _).mono ?_
  rintro e a1 ⟨r1, b1, rfl, d1, -, -, hw, -, -⟩
  have H1 := hideS (bthen H0.out hw)
  have D1 := hideS d1
  clear hw d1
  go_wp2_with fail
  refine (HSh.out r1 b1 _ (HE.out.on H1.out) D1.out).mono ?_
  rintro e u1 ⟨rfl, hw⟩
  have H2 := hideS (bthen H1.out hw)
  clear hw D1 H1
  go_wp2_with fail
  refine (Read_c X _ (HE.out.on H2.out)).mono ?_
  rintro e u2 ⟨hq, hw⟩
  rw [HX.out] at hq
  obtain ⟨E, rfl, d2, f2, p2⟩ := read_back (eu_ok 0 0) (by rw [eu_len]; decide) hq
  have H3 := hideS (bthen H2.out hw)
  have D2 := hideS d2
  have F2 := hideS f2
  have P2 := hideS p2
  clear hq hw d2 f2 p2 H2
  have V1 := hideS ((Below.refl _ u2).alloc (Nat.le_refl _) (.cells #[.slice E.sa E.ns E.sc, .slice E.za E.nz E.zc, .slice E.la E.nl E.lc] 26))
  have Q1 : Hid ((u2.alloc (.cells #[.slice E.sa E.ns E.sc, .slice E.za E.nz E.zc, .slice E.la E.nl E.lc] 26)).heap[u2.heap.size]? = some (.cells #[.slice E.sa E.ns E.sc, .slice E.za E.nz E.zc, .slice E.la E.nl E.lc] 26)) := World.alloc_heap_new _ _
  obtain ⟨W1, hW1⟩ : ∃ W1, W1 = u2.alloc (.cells #[.slice E.sa E.ns E.sc, .slice E.za E.nz E.zc, .slice E.la E.nl E.lc] 26) := ⟨_, rfl⟩
  rw [← hW1] at V1 Q1
  have HW1 := hideS hW1
  clear hW1
  have H4 := hideS (bthen H3.out V1.out)
  have D4 := hideS (D2.out.on V1.out)
  clear D2 H3 V1
  go_wp2_with fail
  rw [← HW1.out]
  refine (Read_c [115, 101, 116, 32, 120, 10] _ (HE.out.on H4.out)).mono ?_
  rintro e u3 ⟨hq, hw⟩
  obtain rfl := read_x hq
  have H5 := hideS (bthen H4.out hw)
  have D5 := hideS (D4.out.on hw)
  have Q5 := hideS (heap_on Q1.out hw)
  clear hq hw D4 H4 Q1 HW1
  have V2 := hideS ((Below.refl _ u3).alloc (Nat.le_refl _) (.cells #[.slice none 0 0, .slice none 0 0, .slice none 0 0] 26))
  obtain ⟨W2, hW2⟩ : ∃ W2, W2 = u3.alloc (.cells #[.slice none 0 0, .slice none 0 0, .slice none 0 0] 26) := ⟨_, rfl⟩
  rw [← hW2] at V2
  have H6 := hideS (bthen H5.out V2.out)
  have D6 := hideS (D5.out.on V2.out)
  have Q6 := hideS (heap_on Q5.out V2.out)
  clear H5 D5 Q5
  go_upto_region 4 with fail
  simp only [← hW2]
  clear hW2 V2
  obtain ⟨c0, c1, c2⟩ := cells3 Q6.out
  have hx1 : ((X.length : Int) == 227) = true := by rw [HX1.out]; rfl
  have hx2 : (7 : Int) ≤ (X.length : Int) := by rw [HX1.out]; decide
  have hx3 : ¬ ((X.length : Int) < 7) := by omega
  have hx4 : (⟨X.toArray⟩ : ByteArray).extract 0 7 = ⟨#[115, 101, 116, 32, 101, 117, 10]⟩ := by
    rw [ext_list]
    show (⟨((X.drop 0).take 7).toArray⟩ : ByteArray) = _
    rw [List.drop_zero, HX2.out]
  have KS : Hid (∀ v : World, Below W2.heap.size W2 v → v.cell? ⟨u2.heap.size, 0, none⟩ = some (.slice E.sa E.ns E.sc) ∧ v.cell? ⟨u2.heap.size, 1, none⟩ = some (.slice E.za E.nz E.zc) ∧ v.cell? ⟨u2.heap.size, 2, none⟩ = some (.slice E.la E.nl E.lc)) := fun v hv => cells3 (heap_on Q6.out hv)
  have BR := (Below.refl W2.heap.size W2).drew
  go_region_held3 (fun v => v.cell? ⟨u2.heap.size, 0, none⟩ = some (.slice E.sa E.ns E.sc) ∧ v.cell? ⟨u2.heap.size, 1, none⟩ = some (.slice E.za E.nz E.zc) ∧ v.cell? ⟨u2.heap.size, 2, none⟩ = some (.slice E.la E.nl E.lc))
    (first
      | (exact ⟨c0, c1, c2⟩)
      | (exact KS.out _ BR)
      | (exact KS.out _ (bthen BR hw6))
      | (exact KS.out _ (bthen (bthen BR hw6) hw7))
      | go_keep)
    (first
      | (go_at_call 28; refine (europe_x _).mono ?_; rintro e a2 ⟨r2, b2, rfl, d3, -, -, hw6, -, -⟩)
      | (go_at_call 10; refine (same_eu E r2 b2 _ (D6.out.on (bthen BR hw6)) F2.out P2.out d3).mono ?_; rintro e a3 ⟨rfl, hw7⟩))
  all_goals
    go_wp2_with fail
    go_ret
    exact ⟨rfl, bthen H6.out (bthen (bthen BR hw6) hw7)⟩
end Go.Proofs.YtbpdbggojgijiaaGreatDoor.Src
