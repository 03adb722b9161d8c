/- source.Show and source.Read, whatever they are handed. -/
import Derived.Test.YtbpdbggojgijiaaGreatDoorSourceX
namespace Go.Proofs.YtbpdbggojgijiaaGreatDoor.Src
open Go Go.RowKit Go.Maps
set_option linter.unusedVariables false
set_option linter.unusedSimpArgs false

theorem gTab : Tryz.prog.globalNamed "internal/strconv.uint64pow10" = some 0 := by kernel_rfl
/-- what the package's calls read of the world -/
structure SrE (w : World) : Prop where
  laid : Laid w
  evs : EVs w
  tab : TabW w
theorem SrE.on {w w' : World} (h : SrE w) (hb : Below w.heap.size w w') : SrE w' := ⟨h.laid.on hb, h.evs.on hb, Joins.tab_stays gTab h.tab hb (Nat.le_refl _)⟩
/-- the text that is told beside the error -/
def shT (D : Dt) : By := if chkE D = 0 then showD D else []
theorem Show_c (D : Dt) (w : World) (hE : SrE w) (hD : DAt w D) (hF : D.fits) :
    Calls Tryz.prog 5 #[D.v] w fun e w' => e = .returned (.tuple #[.string ⟨(shT D).toArray⟩, .int .i64 (chkE D)]) ∧ Below w.heap.size w w' := by
  by_cases h : chkE D = 0
  · refine (Show_ok D w ⟨hE.laid, hE.evs.2.2, hD⟩ hF hE.tab h (sh_ok h) (fun v hv => (hE.on hv).tab)).mono ?_
    rintro e w' ⟨rfl, hb⟩
    unfold shT
    rw [if_pos h, h]
    exact ⟨rfl, hb⟩
  · refine (Show_no D w ⟨hE.laid, hE.evs.2.2, hD⟩ hF h).mono ?_
    rintro e w' ⟨rfl, hb⟩
    unfold shT
    rw [if_neg h]
    exact ⟨rfl, hb⟩
abbrev zD : Value := .agg #[.slice none 0 0, .slice none 0 0, .slice none 0 0]
/-- what Read answers -/
def rdQ (s : By) (e : Ending) (w' : World) : Prop := (4096 < s.length ∧ e = .returned (.tuple #[zD, .int .i64 2])) ∨ (s.length ≤ 4096 ∧ ∃ D : Dt, DAt w' D ∧ D.fits ∧ pdOf D = guessP numA s ∧ ((chkE D = 0 ∧ showD D = s ∧ e = .returned (.tuple #[D.v, .int .i64 0])) ∨ (¬ (chkE D = 0 ∧ showD D = s) ∧ e = .returned (.tuple #[zD, .int .i64 1]))))
set_option maxHeartbeats 4000000 in
set_option maxRecDepth 100000 in
theorem Read_c (s : By) (w : World) (hE : SrE w) : Calls Tryz.prog 8 #[.string ⟨s.toArray⟩] w fun e w' => rdQ s e w' ∧ Below w.heap.size w w' := by
  have hb0 := (Below.refl _ w).alloc (Nat.le_refl _) (.cells #[.slice none 0 0, .slice none 0 0, .slice none 0 0] 26)
  have HB0 := hideS hb0
  have HE := hideS (hE.on hb0)
  have Z0 : Hid ((w.alloc (.cells #[.slice none 0 0, .slice none 0 0, .slice none 0 0] 26)).heap[w.heap.size]? = some (.cells #[.slice none 0 0, .slice none 0 0, .slice none 0 0] 26)) := World.alloc_heap_new _ _
  by_cases hs : 4096 < s.length
  · clear hb0 hE
    have hs2 : (4096 : Int) < s.length := by omega
    go_enter Tryz.func8, Tryz.ntmps8
    go_wp2_with fail
    refine bodyPost_ret (v := .tuple #[zD, .int .i64 2]) ?_ rfl ⟨.inl ⟨hs, rfl⟩, ?_⟩
    · simp [results, Tryz.results8, go_sem]
    · exact HB0.out
  · have HC := hideS (guess_c s _ (hE.evs.on hb0) (by omega))
    clear hb0 hE
    have hs2 : ¬ (4096 : Int) < s.length := by omega
    have hs3 : s.length ≤ 4096 := by omega
    go_enter Tryz.func8, Tryz.ntmps8
    go_wp2_with (go_at_call 27; refine HC.out.mono ?_; rintro e w1 ⟨D, rfl, d1, f1, p1, b1⟩; refine unhid ?_)
    obtain ⟨x1, x2, x3, hx⟩ : ∃ x1 x2 x3, D.v = .agg #[x1, x2, x3] := ⟨_, _, _, rfl⟩
    have b2 := (Below.refl _ w1).alloc (Nat.le_refl _) (.cells #[.slice D.sa D.ns D.sc, .slice D.za D.nz D.zc, .slice D.la D.nl D.lc] 26)
    have b12 := bthen b1 b2
    have HS := hideS (Show_c D _ (HE.out.on b12) (d1 _ (kt_on b2)) f1)
    have Q1 : Hid ((w1.alloc (.cells #[.slice D.sa D.ns D.sc, .slice D.za D.nz D.zc, .slice D.la D.nl D.lc] 26)).heap[w1.heap.size]? = some (.cells #[.slice D.sa D.ns D.sc, .slice D.za D.nz D.zc, .slice D.la D.nl D.lc] 26)) := World.alloc_heap_new _ _
    have Z1 := hideS (heap_on Z0.out b12)
    have B12 := hideS b12
    have D1 : Hid (∀ w'' : World, KT [26] (w1.alloc (.cells #[.slice D.sa D.ns D.sc, .slice D.za D.nz D.zc, .slice D.la D.nl D.lc] 26)) w'' → DAt w'' D) := fun w'' hk => d1 w'' ((kt_on b2).trans hk)
    have F1 := hideS f1
    have P1 := hideS p1
    have BW := hideS (bthen HB0.out b12)
    have hne : Hid (w.heap.size < w1.heap.size) := by have := b1.size; simp at this; exact this
    obtain ⟨E0, hE0⟩ : ∃ E0, E0 = chkE D := ⟨_, rfl⟩
    obtain ⟨T, hT⟩ : ∃ T, T = shT D := ⟨_, rfl⟩
    rw [← hE0, ← hT] at HS
    have HQ : Hid (∀ W' e, DAt W' D → ((E0 = 0 ∧ T = s ∧ e = .returned (.tuple #[D.v, .int .i64 0])) ∨ (¬ (E0 = 0 ∧ T = s) ∧ e = .returned (.tuple #[zD, .int .i64 1]))) → rdQ s e W') := fun W' e hd h => by
      refine .inr ⟨hs3, D, hd, F1.out, P1.out, ?_⟩
      rw [← hE0]
      have key : E0 = 0 → T = showD D := fun h0 => by
        rw [hT]
        unfold shT
        rw [← hE0, if_pos h0]
      rcases h with ⟨h1, h2, h3⟩ | ⟨h1, h2⟩
      · exact .inl ⟨h1, by rw [← key h1]; exact h2, h3⟩
      · exact .inr ⟨fun ⟨k1, k2⟩ => h1 ⟨k1, by rw [key k1]; exact k2⟩, h2⟩
    obtain ⟨W2, hW2⟩ : ∃ W2, W2 = w1.alloc (.cells #[.slice D.sa D.ns D.sc, .slice D.za D.nz D.zc, .slice D.la D.nl D.lc] 26) := ⟨_, rfl⟩
    obtain ⟨g, hg⟩ : ∃ g, g = w1.heap.size := ⟨_, rfl⟩
    rw [← hW2] at HS Q1 Z1 B12 D1 BW
    rw [← hg] at Q1 hne
    clear b2 b12 d1 f1 p1 b1 HC hE0 hT hx
    refine hideS ?_
    go_upto_region 4 with fail
    try simp only [← hg, ← hW2]
    clear hW2 hg
    obtain ⟨a0, a1, a2⟩ := cells3 Q1.out
    go_wp2_with (go_at_call 5; refine HS.out.mono ?_; rintro e w3 ⟨rfl, b3⟩; refine unhid ?_)
    have Q3 := hideS (heap_on Q1.out b3)
    have Z3 := hideS (heap_on Z1.out b3)
    have D3 : Hid (∀ w'' : World, KT [26] w3 w'' → DAt w'' D) := fun w'' hk => D1.out w'' ((kt_on b3).trans hk)
    have BW3 := hideS (bthen BW.out b3)
    obtain ⟨y0, y1, y2⟩ := cells3 Q3.out
    obtain ⟨z0, z1, z2⟩ := cells3 Z3.out
    have f0 := frozen3 Z3.out 0
    have f1 := frozen3 Z3.out 1
    have f2 := frozen3 Z3.out 2
    clear b3 HS Q1 Z1 D1 BW B12 a0 a1 a2
    refine hideS ?_
    by_cases h0 : E0 = 0
    · by_cases hT : T = s
      · subst h0 hT
        go_wp2_with fail
        have Q1 := setCell_at (o := 0) Z3.out (.slice D.sa D.ns D.sc)
        have Q2 := setCell_at (o := 1) Q1 (.slice D.za D.nz D.zc)
        have Q4 := setCell_at (o := 2) Q2 (.slice D.la D.nl D.lc)
        have kk := ((kt_set (ts := [26]) Z3.out (by decide) 0 (.slice D.sa D.ns D.sc)).trans (kt_set Q1 (by decide) 1 (.slice D.za D.nz D.zc))).trans (kt_set Q2 (by decide) 2 (.slice D.la D.nl D.lc))
        refine bodyPost_ret (v := .tuple #[.agg #[.slice D.sa D.ns D.sc, .slice D.za D.nz D.zc, .slice D.la D.nl D.lc], .int .i64 0]) ?_ rfl ⟨HQ.out _ _ (D3.out _ kk) ?_, ?_⟩
        · obtain ⟨x0, x1, x2⟩ := cells3 Q4
          simp [results, Tryz.results8, go_sem, x0, x1, x2]
        · first | exact .inl ⟨rfl, rfl, rfl⟩ | exact .inl ⟨trivial, trivial, rfl⟩
        · exact ((BW3.out.setCell (p := ⟨w.heap.size, 0, none⟩) (by simp) _).setCell (p := ⟨w.heap.size, 1, none⟩) (by simp) _).setCell (p := ⟨w.heap.size, 2, none⟩) (by simp) _
      · have e1 : (T == s) = false := beq_eq_false_iff_ne.2 hT
        subst h0
        go_wp2_with fail
        have Q1 := setCell_at (o := 0) Z3.out (.slice none 0 0)
        have Q2 := setCell_at (o := 1) Q1 (.slice none 0 0)
        have Q4 := setCell_at (o := 2) Q2 (.slice none 0 0)
        have kk := ((kt_set (ts := [26]) Z3.out (by decide) 0 (.slice none 0 0)).trans (kt_set Q1 (by decide) 1 (.slice none 0 0))).trans (kt_set Q2 (by decide) 2 (.slice none 0 0))
        refine bodyPost_ret (v := .tuple #[.agg #[.slice none 0 0, .slice none 0 0, .slice none 0 0], .int .i64 1]) ?_ rfl ⟨HQ.out _ _ (D3.out _ kk) ?_, ?_⟩
        · obtain ⟨x0, x1, x2⟩ := cells3 Q4
          simp [results, Tryz.results8, go_sem, x0, x1, x2]
        · exact .inr ⟨fun h => hT h.2, rfl⟩
        · exact ((BW3.out.setCell (p := ⟨w.heap.size, 0, none⟩) (by simp) _).setCell (p := ⟨w.heap.size, 1, none⟩) (by simp) _).setCell (p := ⟨w.heap.size, 2, none⟩) (by simp) _
    · have e0 : decide (E0 = 0) = false := decide_eq_false h0
      go_wp2_with fail
      have Q1 := setCell_at (o := 0) Z3.out (.slice none 0 0)
      have Q2 := setCell_at (o := 1) Q1 (.slice none 0 0)
      have Q4 := setCell_at (o := 2) Q2 (.slice none 0 0)
      have kk := ((kt_set (ts := [26]) Z3.out (by decide) 0 (.slice none 0 0)).trans (kt_set Q1 (by decide) 1 (.slice none 0 0))).trans (kt_set Q2 (by decide) 2 (.slice none 0 0))
      refine bodyPost_ret (v := .tuple #[.agg #[.slice none 0 0, .slice none 0 0, .slice none 0 0], .int .i64 1]) ?_ rfl ⟨HQ.out _ _ (D3.out _ kk) ?_, ?_⟩
      · obtain ⟨x0, x1, x2⟩ := cells3 Q4
        simp [results, Tryz.results8, go_sem, x0, x1, x2]
      · exact .inr ⟨fun h => h0 h.1, rfl⟩
      · exact ((BW3.out.setCell (p := ⟨w.heap.size, 0, none⟩) (by simp) _).setCell (p := ⟨w.heap.size, 1, none⟩) (by simp) _).setCell (p := ⟨w.heap.size, 2, none⟩) (by simp) _
end Go.Proofs.YtbpdbggojgijiaaGreatDoor.Src
