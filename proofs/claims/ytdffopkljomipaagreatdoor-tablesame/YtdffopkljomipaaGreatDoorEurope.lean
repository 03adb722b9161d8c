/- The statements' own data: europe; what data.Check and data.Zone answer of it. -/
import Derived.Test.YtdffopkljomipaaGreatDoorDataQ
import Derived.Test.YtdffopkljomipaaGreatDoorRulesIAll
namespace Go.Proofs.YtdffopkljomipaaGreatDoor
open Go Go.RowKit
set_option linter.unusedVariables false

/-- eras of the first zone, of the second one -/
def eu1 (j : Nat) : Er := if j = 0 then ⟨1800, -1, 0, ⟨#[76, 77, 84]⟩, 500000000⟩ else ⟨3600, 0, 0, ⟨#[67, 69, 37, 115, 84]⟩, 1893456000⟩
def eu2 (x : Int) (j : Nat) : Er := ⟨-18000, x, 3600, ⟨#[88, 84]⟩, 1893456000⟩
/-- europe: rules in block r, the rest from block b on; the second zone's set; whereto the first link leads -/
def eu (r b : Nat) (x : Int) (t : ByteArray) : Dt :=
  { sa := some ⟨b, 0, none⟩, ns := 1, sc := 1, ss := fun _ => ⟨⟨#[101, 117]⟩, some ⟨r, 0, none⟩, 2, 2, spr⟩
    za := some ⟨b + 3, 0, none⟩, nz := 2, zc := 2
    zs := fun j => if j = 0 then ⟨⟨#[69, 47, 79, 108, 100, 95, 84, 111, 119, 110]⟩, some ⟨b + 1, 0, none⟩, 2, 2, eu1⟩ else ⟨⟨#[65, 47, 87, 101, 115, 116]⟩, some ⟨b + 2, 0, none⟩, 1, 1, eu2 x⟩
    la := some ⟨b + 4, 0, none⟩, nl := 2, lc := 2
    ls := fun j => if j = 0 then ⟨⟨#[84, 111, 119, 110]⟩, t⟩ else ⟨⟨#[84]⟩, ⟨#[84, 111, 119, 110]⟩⟩ }
abbrev old : ByteArray := ⟨#[69, 47, 79, 108, 100, 95, 84, 111, 119, 110]⟩
set_option maxRecDepth 100000 in
theorem eu_ok (r b : Nat) : chkE (eu r b (-1) old) = 0 := by kernel_rfl
set_option maxRecDepth 100000 in
theorem eu_round (r b : Nat) : chkE (eu r b (-1) ⟨#[84]⟩) = 7 := by kernel_rfl
set_option maxRecDepth 100000 in
theorem eu_range (r b : Nat) : chkE (eu r b 0 old) = 3 := by kernel_rfl
set_option maxRecDepth 100000 in
theorem eu_T (r b : Nat) : zonR (eu r b (-1) old) ⟨#[84]⟩ = 0 ∧ zonE (eu r b (-1) old) ⟨#[84]⟩ = 0 := ⟨by kernel_rfl, by kernel_rfl⟩
set_option maxRecDepth 100000 in
theorem eu_X (r b : Nat) : zonE (eu r b (-1) old) ⟨#[88]⟩ = 4 := by kernel_rfl
theorem eu_names : nameB old = true ∧ nameB ⟨#[69, 47]⟩ = false ∧ nameB ⟨#[49, 97]⟩ = false := ⟨by kernel_rfl, by kernel_rfl, by kernel_rfl⟩

theorem five (w : World) (b : Nat) (h : b < w.heap.size) (o : Nat) : (∀ o1 o2 o3 o4 o5, (((((w.alloc o1).alloc o2).alloc o3).alloc o4).alloc o5).cell? ⟨b, o, none⟩ = w.cell? ⟨b, o, none⟩) ∧ (∀ o1 o2 o3 o4 o5, (((((w.alloc o1).alloc o2).alloc o3).alloc o4).alloc o5).frozen? ⟨b, o, none⟩ = w.frozen? ⟨b, o, none⟩) := by
  have hb : ∀ o1 o2 o3 o4 o5, Below w.heap.size w (((((w.alloc o1).alloc o2).alloc o3).alloc o4).alloc o5) := fun o1 o2 o3 o4 o5 => (((((Below.refl _ w).alloc (Nat.le_refl _) o1).alloc (by simp) o2).alloc (by simp; omega) o3).alloc (by simp; omega) o4).alloc (by simp; omega) o5
  exact ⟨fun o1 o2 o3 o4 o5 => (hb o1 o2 o3 o4 o5).cell (p := ⟨b, o, none⟩) h, fun o1 o2 o3 o4 o5 => (hb o1 o2 o3 o4 o5).frozen (p := ⟨b, o, none⟩) h⟩
theorem heap5 (w : World) (o1 o2 o3 o4 o5 : Obj) : (((((w.alloc o1).alloc o2).alloc o3).alloc o4).alloc o5).heap[w.heap.size]? = some o1 ∧ (((((w.alloc o1).alloc o2).alloc o3).alloc o4).alloc o5).heap[w.heap.size + 1]? = some o2 ∧ (((((w.alloc o1).alloc o2).alloc o3).alloc o4).alloc o5).heap[w.heap.size + 2]? = some o3 ∧ (((((w.alloc o1).alloc o2).alloc o3).alloc o4).alloc o5).heap[w.heap.size + 3]? = some o4 ∧ (((((w.alloc o1).alloc o2).alloc o3).alloc o4).alloc o5).heap[w.heap.size + 4]? = some o5 := by
  have s1 : (w.alloc o1).heap.size = w.heap.size + 1 := by simp
  have s2 : ((w.alloc o1).alloc o2).heap.size = w.heap.size + 2 := by simp
  have s3 : (((w.alloc o1).alloc o2).alloc o3).heap.size = w.heap.size + 3 := by simp
  have s4 : ((((w.alloc o1).alloc o2).alloc o3).alloc o4).heap.size = w.heap.size + 4 := by simp
  have n1 := World.alloc_heap_new w o1
  have n2 := World.alloc_heap_new (w.alloc o1) o2
  have n3 := World.alloc_heap_new ((w.alloc o1).alloc o2) o3
  have n4 := World.alloc_heap_new (((w.alloc o1).alloc o2).alloc o3) o4
  have n5 := World.alloc_heap_new ((((w.alloc o1).alloc o2).alloc o3).alloc o4) o5
  rw [s1] at n2
  rw [s2] at n3
  rw [s3] at n4
  rw [s4] at n5
  refine ⟨?_, ?_, ?_, ?_, n5⟩
  · rw [Below.heap_alloc _ _ _ (by omega), Below.heap_alloc _ _ _ (by omega), Below.heap_alloc _ _ _ (by omega), Below.heap_alloc _ _ _ (by omega)]; exact n1
  · rw [Below.heap_alloc _ _ _ (by omega), Below.heap_alloc _ _ _ (by omega), Below.heap_alloc _ _ _ (by omega)]; exact n2
  · rw [Below.heap_alloc _ _ _ (by omega), Below.heap_alloc _ _ _ (by omega)]; exact n3
  · rw [Below.heap_alloc _ _ _ (by omega)]; exact n4
theorem frozen3 {w : World} {b : Nat} {x y z : Value} {t : TypeId} (h : w.heap[b]? = some (.cells #[x, y, z] t)) (o : Nat) : w.frozen? ⟨b, o, none⟩ = false := by simp [World.frozen?, h]
set_option maxRecDepth 100000 in
set_option maxHeartbeats 1000000 in
theorem europe_c (w : World) : Calls Tryz.prog 23 #[] w fun e w' => ∃ r b, e = .returned (eu r b (-1) old).v ∧ DAt w' (eu r b (-1) old) ∧ r < b ∧ w.heap.size ≤ b ∧ Below w.heap.size w w'
    ∧ w'.heap[b + 2]? = some (.cells #[.int .i64 (-18000), .int .i64 (-1), .int .i64 3600, .string ⟨#[88, 84]⟩, .int .i64 1893456000] 50)
    ∧ w'.heap[b + 4]? = some (.cells #[.string ⟨#[84, 111, 119, 110]⟩, .string old, .string ⟨#[84]⟩, .string ⟨#[84, 111, 119, 110]⟩] 90) := by
  have hb0 := hideH ((Below.refl _ w).alloc (Nat.le_refl _) (.cells #[.slice none 0 0, .slice none 0 0, .slice none 0 0] 26))
  go_enter Tryz.func23, Tryz.ntmps23
  go_wp2_with (go_at_call 41; refine (spring_c _).mono ?_; rintro e w1 ⟨rfl, hrow, hw⟩; have HR := hideH hrow; have HW := hideH hw; have C1 := hideH (heap_on (World.alloc_heap_new w (.cells #[.slice none 0 0, .slice none 0 0, .slice none 0 0] 26)) hw); obtain ⟨z0, z1, z2⟩ := cells3 C1.out; have g0 := frozen3 C1.out 0; have g1 := frozen3 C1.out 1; have g2 := frozen3 C1.out 2; have hlt := cell_lt z0; have y := hideH (five w1 w.heap.size hlt); have y0 := (y.out 0).1; have y1 := (y.out 1).1; have y2 := (y.out 2).1; have f0 := (y.out 0).2; have f1 := (y.out 1).2; have f2 := (y.out 2).2; rw [z0] at y0; rw [z1] at y1; rw [z2] at y2; rw [g0] at f0; rw [g1] at f1; rw [g2] at f2; clear hrow hw)
  clear z0 z1 z2 g0 g1 g2 y0 y1 y2 f0 f1 f2
  have hsz1 : w.heap.size + 1 ≤ w1.heap.size := hlt
  have hr2 : w.heap.size + 1 < w1.heap.size := by have := cell_lt (HR.out 0 (by omega)).1; simpa using this
  obtain ⟨W5, hW5⟩ : ∃ W5, W5 = ((((w1.alloc (.cells #[.string ⟨#[101, 117]⟩, .slice (some ⟨w.heap.size + 1, 0, none⟩) 2 2] 53)).alloc
      (.cells #[.int .i64 1800, .int .i64 (-1), .int .i64 0, .string ⟨#[76, 77, 84]⟩, .int .i64 500000000, .int .i64 3600, .int .i64 0, .int .i64 0, .string ⟨#[67, 69, 37, 115, 84]⟩, .int .i64 1893456000] 50)).alloc
      (.cells #[.int .i64 (-18000), .int .i64 (-1), .int .i64 3600, .string ⟨#[88, 84]⟩, .int .i64 1893456000] 50)).alloc
      (.cells #[.string old, .slice (some ⟨w1.heap.size + 1, 0, none⟩) 2 2, .string ⟨#[65, 47, 87, 101, 115, 116]⟩, .slice (some ⟨w1.heap.size + 1 + 1, 0, none⟩) 1 1] 48)).alloc
      (.cells #[.string ⟨#[84, 111, 119, 110]⟩, .string old, .string ⟨#[84]⟩, .string ⟨#[84, 111, 119, 110]⟩] 90) := ⟨_, rfl⟩
  have hs5 : W5.heap.size = w1.heap.size + 5 := by rw [hW5]; simp
  have hb5 : Below w1.heap.size w1 W5 := by rw [hW5]; exact (((((Below.refl _ w1).alloc (Nat.le_refl _) _).alloc (by simp) _).alloc (by simp; omega) _).alloc (by simp; omega) _).alloc (by simp; omega) _
  simp only [← hW5]
  have k0 : W5.heap[w1.heap.size]? = some (.cells #[.string ⟨#[101, 117]⟩, .slice (some ⟨w.heap.size + 1, 0, none⟩) 2 2] 53) := by rw [hW5]; exact (heap5 w1 _ _ _ _ _).1
  have k1 : W5.heap[w1.heap.size + 1]? = some (.cells #[.int .i64 1800, .int .i64 (-1), .int .i64 0, .string ⟨#[76, 77, 84]⟩, .int .i64 500000000, .int .i64 3600, .int .i64 0, .int .i64 0, .string ⟨#[67, 69, 37, 115, 84]⟩, .int .i64 1893456000] 50) := by rw [hW5]; exact (heap5 w1 _ _ _ _ _).2.1
  have k2 : W5.heap[w1.heap.size + 2]? = some (.cells #[.int .i64 (-18000), .int .i64 (-1), .int .i64 3600, .string ⟨#[88, 84]⟩, .int .i64 1893456000] 50) := by rw [hW5]; exact (heap5 w1 _ _ _ _ _).2.2.1
  have k3 : W5.heap[w1.heap.size + 3]? = some (.cells #[.string old, .slice (some ⟨w1.heap.size + 1, 0, none⟩) 2 2, .string ⟨#[65, 47, 87, 101, 115, 116]⟩, .slice (some ⟨w1.heap.size + 1 + 1, 0, none⟩) 1 1] 48) := by rw [hW5]; exact (heap5 w1 _ _ _ _ _).2.2.2.1
  have k4 : W5.heap[w1.heap.size + 4]? = some (.cells #[.string ⟨#[84, 111, 119, 110]⟩, .string old, .string ⟨#[84]⟩, .string ⟨#[84, 111, 119, 110]⟩] 90) := by rw [hW5]; exact (heap5 w1 _ _ _ _ _).2.2.2.2
  have hB5 : Below w.heap.size w W5 := bthen (bthen hb0.out HW.out) hb5
  have HR5 := HR.out.on hb5
  have C5 := heap_on C1.out hb5
  obtain ⟨z0, z1, z2⟩ := cells3 C5
  clear hW5 hb5 C1 HR HW hb0 y hlt C5
  have hBW := ((hB5.setCell (p := ⟨w.heap.size, 0, none⟩) (Nat.le_refl _) (.slice (some ⟨w1.heap.size, 0, none⟩) 1 1)).setCell (p := ⟨w.heap.size, 1, none⟩) (Nat.le_refl _) (.slice (some ⟨w1.heap.size + 1 + 1 + 1, 0, none⟩) 2 2)).setCell (p := ⟨w.heap.size, 2, none⟩) (Nat.le_refl _) (.slice (some ⟨w1.heap.size + 1 + 1 + 1 + 1, 0, none⟩) 2 2)
  refine bodyPost_ret (v := (eu (w.heap.size + 1) w1.heap.size (-1) old).v) (by simp [results, Tryz.results23, go_sem, z0, z1, z2, eu]) rfl ?_
  have hk : ∀ k, k ≠ w.heap.size → (((W5.setCell ⟨w.heap.size, 0, none⟩ (.slice (some ⟨w1.heap.size, 0, none⟩) 1 1)).setCell ⟨w.heap.size, 1, none⟩ (.slice (some ⟨w1.heap.size + 1 + 1 + 1, 0, none⟩) 2 2)).setCell ⟨w.heap.size, 2, none⟩ (.slice (some ⟨w1.heap.size + 1 + 1 + 1 + 1, 0, none⟩) 2 2)).heap[k]? = W5.heap[k]? := fun k h =>
    (Below.heap_setCell _ _ _ _ h).trans ((Below.heap_setCell _ _ _ _ h).trans (Below.heap_setCell _ _ _ _ h))
  generalize (((W5.setCell ⟨w.heap.size, 0, none⟩ (.slice (some ⟨w1.heap.size, 0, none⟩) 1 1)).setCell ⟨w.heap.size, 1, none⟩ (.slice (some ⟨w1.heap.size + 1 + 1 + 1, 0, none⟩) 2 2)).setCell ⟨w.heap.size, 2, none⟩ (.slice (some ⟨w1.heap.size + 1 + 1 + 1 + 1, 0, none⟩) 2 2)) = W at hk hBW ⊢
  have q0 := (hk _ (by omega)).trans k0
  have q1 := (hk _ (by omega)).trans k1
  have q2 := (hk _ (by omega)).trans k2
  have q3 := (hk _ (by omega)).trans k3
  have q4 := (hk _ (by omega)).trans k4
  refine ⟨w.heap.size + 1, w1.heap.size, rfl, ⟨?_, ?_, ?_, ?_, ?_⟩, by omega, by omega, hBW, q2, q4⟩
  · refine .inr ⟨w1.heap.size, 0, rfl, fun j hj => ?_⟩
    have : j = 0 := by simp [eu] at hj; omega
    subst this
    constructor <;> simp [World.cell?, q0, eu]
  · intro j hj
    refine .inr ⟨w.heap.size + 1, 0, rfl, fun i hi => ?_⟩
    have hc : ∀ o, W.cell? ⟨w.heap.size + 1, o, none⟩ = W5.cell? ⟨w.heap.size + 1, o, none⟩ := fun o => World.cell?_of_block (hk _ (by show w.heap.size + 1 ≠ w.heap.size; omega))
    have h9 := HR5 i hi
    simp only [World.size_alloc] at h9
    unfold RAt at h9 ⊢
    simp only [hc]
    exact h9
  · refine .inr ⟨w1.heap.size + 3, 0, rfl, fun j hj => ?_⟩
    have h : j = 0 ∨ j = 1 := by simp [eu] at hj; omega
    rcases h with rfl | rfl <;> constructor <;> simp [World.cell?, q3, eu]
  · intro j hj
    have h : j = 0 ∨ j = 1 := by simp [eu] at hj; omega
    rcases h with rfl | rfl
    · refine .inr ⟨w1.heap.size + 1, 0, rfl, fun i hi => ?_⟩
      have h : i = 0 ∨ i = 1 := by simp [eu] at hi; omega
      rcases h with rfl | rfl <;> refine ⟨?_, ?_, ?_, ?_, ?_⟩ <;> simp [World.cell?, q1, eu, eu1]
    · refine .inr ⟨w1.heap.size + 2, 0, rfl, fun i hi => ?_⟩
      have h : i = 0 := by simp [eu] at hi; omega
      subst h
      refine ⟨?_, ?_, ?_, ?_, ?_⟩ <;> simp [World.cell?, q2, eu, eu2]
  · refine .inr ⟨w1.heap.size + 4, 0, rfl, fun j hj => ?_⟩
    have h : j = 0 ∨ j = 1 := by simp [eu] at hj; omega
    rcases h with rfl | rfl <;> constructor <;> simp [World.cell?, q4, eu]
end Go.Proofs.YtdffopkljomipaaGreatDoor
