/- What the statements ask of books in any case: booksBegun answers true. -/
import Derived.Test.YtainhpnmgligjafBooksH
namespace Go.Proofs.Ytainhpnmgligjaf
open Go Go.RowKit
set_option linter.unusedVariables false

theorem shT1 (v : World) {a b s : Nat} (h : SAt v a b s (-1)) : Calls Try.prog 5 #[.slice (some ⟨s, 0, none⟩) 2 2, .string ⟨#[120, 120]⟩, .string ⟨#[109, 105, 100, 47, 115]⟩] v fun e w' => e = .returned (.tuple #[.string ⟨#[109, 115, 116]⟩, .bool true, .int .i64 0]) ∧ Below v.heap.size v w' := by
  have hb : (!(⟨#[109, 115, 116]⟩ : ByteArray).toList.isEmpty) = true := by rw [tl]; rfl
  have := BText_c (some ⟨s, 0, none⟩) 2 2 (shf a b (-1)) ⟨#[120, 120]⟩ ⟨#[109, 105, 100, 47, 115]⟩ v (by unfold maxLen; omega) (Nat.le_refl _) h.books (fun j _ => shf_fits a b (.inl rfl) j)
  rwa [(sh_1 a b).1, (sh_1 a b).2, hb] at this
theorem shT2 (v : World) {a b s : Nat} (h : SAt v a b s (-1)) : Calls Try.prog 5 #[.slice (some ⟨s, 0, none⟩) 2 2, .string ⟨#[120, 120]⟩, .string ⟨#[109, 105, 100, 47, 100]⟩] v fun e w' => e = .returned (.tuple #[.string ⟨#[77, 68, 84]⟩, .bool true, .int .i64 0]) ∧ Below v.heap.size v w' := by
  have hb : (!(⟨#[77, 68, 84]⟩ : ByteArray).toList.isEmpty) = true := by rw [tl]; rfl
  have := BText_c (some ⟨s, 0, none⟩) 2 2 (shf a b (-1)) ⟨#[120, 120]⟩ ⟨#[109, 105, 100, 47, 100]⟩ v (by unfold maxLen; omega) (Nat.le_refl _) h.books (fun j _ => shf_fits a b (.inl rfl) j)
  rwa [sh_2 a b, (sh_1 a b).2, hb] at this
theorem shT3 (v : World) {a b s : Nat} (h : SAt v a b s (-1)) : Calls Try.prog 5 #[.slice (some ⟨s, 0, none⟩) 2 2, .string ⟨#[120, 120]⟩, .string ⟨#[65, 47, 87, 101, 115, 116]⟩] v fun e w' => e = .returned (.tuple #[.string ⟨#[]⟩, .bool false, .int .i64 0]) ∧ Below v.heap.size v w' := by
  have hb : (!(⟨#[]⟩ : ByteArray).toList.isEmpty) = false := by rw [tl]; rfl
  have := BText_c (some ⟨s, 0, none⟩) 2 2 (shf a b (-1)) ⟨#[120, 120]⟩ ⟨#[65, 47, 87, 101, 115, 116]⟩ v (by unfold maxLen; omega) (Nat.le_refl _) h.books (fun j _ => shf_fits a b (.inl rfl) j)
  rwa [sh_3 a b, (sh_1 a b).2, hb] at this
set_option maxRecDepth 100000 in
theorem sh_5 (a b : Nat) : btT (shf a b (-1)) 2 ⟨#[121, 121]⟩ ⟨#[65, 47, 87, 101, 115, 116]⟩ = ⟨#[]⟩ := by kernel_rfl
theorem shT4 (v : World) {a b s : Nat} (h : SAt v a b s (-1)) : Calls Try.prog 5 #[.slice (some ⟨s, 0, none⟩) 2 2, .string ⟨#[121, 121]⟩, .string ⟨#[65, 47, 87, 101, 115, 116]⟩] v fun e w' => e = .returned (.tuple #[.string ⟨#[]⟩, .bool false, .int .i64 4]) ∧ Below v.heap.size v w' := by
  have hb : (!(⟨#[]⟩ : ByteArray).toList.isEmpty) = false := by rw [tl]; rfl
  have := BText_c (some ⟨s, 0, none⟩) 2 2 (shf a b (-1)) ⟨#[121, 121]⟩ ⟨#[65, 47, 87, 101, 115, 116]⟩ v (by unfold maxLen; omega) (Nat.le_refl _) h.books (fun j _ => shf_fits a b (.inl rfl) j)
  rwa [sh_5 a b, sh_4 a b, hb] at this
theorem shK (v : World) {a b s : Nat} {p E : Int} (hp : p = -1 ∨ p = 0) (hE : bchk 2 (shf a b p) = E) (h : SAt v a b s p) : Calls Try.prog 8 #[.slice (some ⟨s, 0, none⟩) 2 2] v fun e w' => e = .returned (.int .i64 E) ∧ Below v.heap.size v w' := by
  have := BCheck_c (some ⟨s, 0, none⟩) 2 2 (shf a b p) v (by unfold maxLen; omega) (Nat.le_refl _) h.books (fun j _ => shf_fits a b hp j)
  rwa [hE] at this
theorem SAt.set {w : World} {a b s : Nat} (h : SAt w a b s (-1)) (h1 : a ≠ s) (h2 : b ≠ s) : SAt (w.setCell ⟨s, 1, none⟩ (.int .i64 0)) a b s 0 := by
  refine ⟨(Below.heap_setCell _ _ _ _ h1).trans h.ha, (Below.heap_setCell _ _ _ _ h2).trans h.hb, ?_⟩
  have := heap_setCell_same w s 1 _ _ (.int .i64 0) h.hs
  simpa [sC] using this
set_option maxRecDepth 100000 in
set_option maxHeartbeats 8000000 in
theorem booksBegun_c (w : World) : Calls Try.prog 7 #[] w fun e w' => e = .returned (.bool true) ∧ Below w.heap.size w w' := by
  go_enter Try.func7, Try.ntmps7
  go_wp2_with fail
  refine (shelf_c _).mono ?_
  rintro e v1 ⟨a1, b1, s1, rfl, hS, hb, hs, hn1, hn2⟩
  have B1 := hideH (bthen (Below.refl _ w) hb)
  have S1 := hideH hS
  clear hS hb hs hn1 hn2
  go_wp2_with fail
  refine (shT1 _ S1.out).mono ?_
  rintro e v2 ⟨rfl, hb⟩
  have B2 := hideH (bthen B1.out hb)
  clear hb S1 B1
  go_wp2_with fail
  refine (shelf_c _).mono ?_
  rintro e v3 ⟨a2, b2, s2, rfl, hS, hb, hs, hn1, hn2⟩
  have B3 := hideH (bthen B2.out hb)
  have S2 := hideH hS
  clear hS hb hs hn1 hn2
  go_wp2_with fail
  refine (shT2 _ S2.out).mono ?_
  rintro e v4 ⟨rfl, hb⟩
  have B4 := hideH (bthen B3.out hb)
  clear hb S2 B3 B2
  go_wp2_with fail
  refine (shelf_c _).mono ?_
  rintro e v5 ⟨a3, b3, s3, rfl, hS, hb, hs, hn1, hn2⟩
  have B5 := hideH (bthen B4.out hb)
  have S3 := hideH hS
  clear hS hb hs hn1 hn2
  go_wp2_with fail
  refine (shT3 _ S3.out).mono ?_
  rintro e v6 ⟨rfl, hb⟩
  have B6 := hideH (bthen B5.out hb)
  clear hb S3 B5 B4
  go_wp2_with fail
  refine (shelf_c _).mono ?_
  rintro e v7 ⟨a4, b4, s4, rfl, hS, hb, hs, hn1, hn2⟩
  have B7 := hideH (bthen B6.out hb)
  have S4 := hideH hS
  clear hS hb hs hn1 hn2
  go_wp2_with fail
  refine (shT4 _ S4.out).mono ?_
  rintro e v8 ⟨rfl, hb⟩
  have B8 := hideH (bthen B7.out hb)
  clear hb S4 B7 B6
  go_wp2_with fail
  refine (shelf_c _).mono ?_
  rintro e v9 ⟨a5, b5, s5, rfl, hS, hb, hs, hn1, hn2⟩
  have B9 := hideH (bthen B8.out hb)
  have S5 := hideH hS
  have hsz : Hid (w.heap.size ≤ s5) := Nat.le_trans B8.out.size hs
  have c1 : v9.cell? ⟨s5, 1, none⟩ = some (.int .i64 (-1)) := by simp [World.cell?, S5.out.hs, sC]
  have f1 : v9.frozen? ⟨s5, 1, none⟩ = false := by simp [World.frozen?, S5.out.hs, sC]
  have HN := hideH (And.intro hn1 hn2)
  clear hS hb hs hn1 hn2 B8
  go_wp2_with fail
  have B10 := hideH (B9.out.setCell (p := ⟨s5, 1, none⟩) hsz.out (.int .i64 0))
  have S6 := hideH (S5.out.set HN.out.1 HN.out.2)
  clear c1 f1 S5 B9
  generalize v9.setCell ⟨s5, 1, none⟩ (.int .i64 0) = v10 at B10 S6 ⊢
  refine (shelf_c _).mono ?_
  rintro e v11 ⟨a7, b7, s7, rfl, hS, hb, -, -, -⟩
  have B11 := hideH (bthen B10.out hb)
  have S7 := hideH hS
  have S8 := hideH (S6.out.on hb)
  clear hS hb S6 B10
  go_wp2_with fail
  refine (shK _ (.inl rfl) (sh_ok a7 b7) S7.out).mono ?_
  rintro e v12 ⟨rfl, hb⟩
  have B12 := hideH (bthen B11.out hb)
  have S9 := hideH (S8.out.on hb)
  clear hb S7 S8 B11
  go_wp2_with fail
  refine (shK _ (.inr rfl) (sh_range a5 b5) S9.out).mono ?_
  rintro e v13 ⟨rfl, hb⟩
  have B13 := hideH (bthen B12.out hb)
  clear hb S9 B12
  go_wp2_with fail
  go_ret
  exact ⟨rfl, B13.out⟩
end Go.Proofs.Ytainhpnmgligjaf
