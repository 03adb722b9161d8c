/- The statements' own data: europe; what data.Check and data.Zone answer of it. -/
import Derived.Test.YtbpdbggojgijiaaGreatDoorDataOAll
import Derived.Test.YtbpdbggojgijiaaGreatDoorRulesIAll
import Derived.Deep.QuietTactic
import Derived.BigQuiet
namespace Go.Proofs.YtbpdbggojgijiaaGreatDoor
open Go Go.RowKit
set_option linter.unusedVariables false

/-- eras of the first zone, of the second one -/
def eu1 (j : Nat) : Er := if j = 0 then ⟨1800, -1, 0, ⟨#[76, 77, 84]⟩, 500000000⟩ else ⟨3600, 0, 0, ⟨#[67, 69, 37, 115, 84]⟩, 1893456000⟩
def eu2 (x : Int) (j : Nat) : Er := ⟨-18000, x, 3600, ⟨#[88, 84]⟩, 1893456000⟩
/-- europe: rules in block r, the rest from block b on; the second zone's set; whereto the first link leads -/
def eu (r b : Nat) (x : Int) (t : ByteArray) : Dt :=
  { sa := some ⟨b, 0, none⟩, ns := 1, sc := 1, ss := fun _ => ⟨⟨#[101, 117]⟩, some ⟨r, 0, none⟩, 2, 2, spr⟩
    za := some ⟨b + 3, 0, none⟩, nz := 2, zc := 2
    zs := fun j => if j = 0 then ⟨⟨#[69, 47, 79, 108, 100, 95, 84, 111, 119, 110]⟩, some ⟨b + 1, 0, none⟩, 2, 2, eu1⟩ else ⟨⟨#[65, 47, 87, 101, 115, 116]⟩, some ⟨b + 2, 0, none⟩, 1, 1, eu2 x⟩
    la := some ⟨b + 4, 0, none⟩, nl := 2, lc := 2
    ls := fun j => if j = 0 then ⟨⟨#[84, 111, 119, 110]⟩, t⟩ else ⟨⟨#[84]⟩, ⟨#[84, 111, 119, 110]⟩⟩ }
abbrev old : ByteArray := ⟨#[69, 47, 79, 108, 100, 95, 84, 111, 119, 110]⟩
set_option maxRecDepth 100000 in
theorem eu_ok (r b : Nat) : chkE (eu r b (-1) old) = 0 := by kernel_rfl
set_option maxRecDepth 100000 in
theorem eu_round (r b : Nat) : chkE (eu r b (-1) ⟨#[84]⟩) = 7 := by kernel_rfl
set_option maxRecDepth 100000 in
theorem eu_range (r b : Nat) : chkE (eu r b 0 old) = 3 := by kernel_rfl
set_option maxRecDepth 100000 in
theorem eu_T (r b : Nat) : zonR (eu r b (-1) old) ⟨#[84]⟩ = 0 ∧ zonE (eu r b (-1) old) ⟨#[84]⟩ = 0 := ⟨by kernel_rfl, by kernel_rfl⟩
set_option maxRecDepth 100000 in
theorem eu_X (r b : Nat) : zonE (eu r b (-1) old) ⟨#[88]⟩ = 4 := by kernel_rfl
theorem eu_names : nameB old = true ∧ nameB ⟨#[69, 47]⟩ = false ∧ nameB ⟨#[49, 97]⟩ = false := ⟨by kernel_rfl, by kernel_rfl, by kernel_rfl⟩

theorem five (w : World) (b : Nat) (h : b < w.heap.size) (o : Nat) : (∀ o1 o2 o3 o4 o5, (((((w.alloc o1).alloc o2).alloc o3).alloc o4).alloc o5).cell? ⟨b, o, none⟩ = w.cell? ⟨b, o, none⟩) ∧ (∀ o1 o2 o3 o4 o5, (((((w.alloc o1).alloc o2).alloc o3).alloc o4).alloc o5).frozen? ⟨b, o, none⟩ = w.frozen? ⟨b, o, none⟩) := by
  have hb : ∀ o1 o2 o3 o4 o5, Below w.heap.size w (((((w.alloc o1).alloc o2).alloc o3).alloc o4).alloc o5) := fun o1 o2 o3 o4 o5 => (((((Below.refl _ w).alloc (Nat.le_refl _) o1).alloc (by simp) o2).alloc (by simp; omega) o3).alloc (by simp; omega) o4).alloc (by simp; omega) o5
  exact ⟨fun o1 o2 o3 o4 o5 => (hb o1 o2 o3 o4 o5).cell (p := ⟨b, o, none⟩) h, fun o1 o2 o3 o4 o5 => (hb o1 o2 o3 o4 o5).frozen (p := ⟨b, o, none⟩) h⟩
theorem heap5 (w : World) (o1 o2 o3 o4 o5 : Obj) : (((((w.alloc o1).alloc o2).alloc o3).alloc o4).alloc o5).heap[w.heap.size]? = some o1 ∧ (((((w.alloc o1).alloc o2).alloc o3).alloc o4).alloc o5).heap[w.heap.size + 1]? = some o2 ∧ (((((w.alloc o1).alloc o2).alloc o3).alloc o4).alloc o5).heap[w.heap.size + 2]? = some o3 ∧ (((((w.alloc o1).alloc o2).alloc o3).alloc o4).alloc o5).heap[w.heap.size + 3]? = some o4 ∧ (((((w.alloc o1).alloc o2).alloc o3).alloc o4).alloc o5).heap[w.heap.size + 4]? = some o5 := by
  have s1 : (w.alloc o1).heap.size = w.heap.size + 1 := by simp
  have s2 : ((w.alloc o1).alloc o2).heap.size = w.heap.size + 2 := by simp
  have s3 : (((w.alloc o1).alloc o2).alloc o3).heap.size = w.heap.size + 3 := by simp
  have s4 : ((((w.alloc o1).alloc o2).alloc o3).alloc o4).heap.size = w.heap.size + 4 := by simp
  have n1 := World.alloc_heap_new w o1
  have n2 := World.alloc_heap_new (w.alloc o1) o2
  have n3 := World.alloc_heap_new ((w.alloc o1).alloc o2) o3
  have n4 := World.alloc_heap_new (((w.alloc o1).alloc o2).alloc o3) o4
  have n5 := World.alloc_heap_new ((((w.alloc o1).alloc o2).alloc o3).alloc o4) o5
  rw [s1] at n2
  rw [s2] at n3
  rw [s3] at n4
  rw [s4] at n5
  refine ⟨?_, ?_, ?_, ?_, n5⟩
  · rw [Below.heap_alloc _ _ _ (by omega), Below.heap_alloc _ _ _ (by omega), Below.heap_alloc _ _ _ (by omega), Below.heap_alloc _ _ _ (by omega)]; exact n1
  · rw [Below.heap_alloc _ _ _ (by omega), Below.heap_alloc _ _ _ (by omega), Below.heap_alloc _ _ _ (by omega)]; exact n2
  · rw [Below.heap_alloc _ _ _ (by omega), Below.heap_alloc _ _ _ (by omega)]; exact n3
  · rw [Below.heap_alloc _ _ _ (by omega)]; exact n4
theorem frozen3 {w : World} {b : Nat} {x y z : Value} {t : TypeId} (h : w.heap[b]? = some (.cells #[x, y, z] t)) (o : Nat) : w.frozen? ⟨b, o, none⟩ = false := by simp [World.frozen?, h]
set_option maxRecDepth 100000 in
set_option maxHeartbeats 1000000 in
theorem europe_c (w : World) : Calls Tryz.prog 28 #[] w fun e w' => ∃ r b, e = .returned (eu r b (-1) old).v ∧ DAt w' (eu r b (-1) old) ∧ r < b ∧ w.heap.size ≤ b ∧ Below w.heap.size w w'
    ∧ w'.heap[b + 2]? = some (.cells #[.int .i64 (-18000), .int .i64 (-1), .int .i64 3600, .string ⟨#[88, 84]⟩, .int .i64 1893456000] 67)
    ∧ w'.heap[b + 4]? = some (.cells #[.string ⟨#[84, 111, 119, 110]⟩, .string old, .string ⟨#[84]⟩, .string ⟨#[84, 111, 119, 110]⟩] 54) := by
  have hb0 := hideH ((Below.refl _ w).alloc (Nat.le_refl _) (.cells #[.slice none 0 0, .slice none 0 0, .slice none 0 0] 26))
  go_enter Tryz.func28, Tryz.ntmps28
  go_wp2_with (go_at_call 47; refine (spring_c _).mono ?_; rintro e w1 ⟨rfl, hrow, hw⟩; have HR := hideH hrow; have HW := hideH hw; have C1 := hideH (heap_on (World.alloc_heap_new w (.cells #[.slice none 0 0, .slice none 0 0, .slice none 0 0] 26)) hw); obtain ⟨z0, z1, z2⟩ := cells3 C1.out; have g0 := frozen3 C1.out 0; have g1 := frozen3 C1.out 1; have g2 := frozen3 C1.out 2; have hlt := cell_lt z0; have y := hideH (five w1 w.heap.size hlt); have y0 := (y.out 0).1; have y1 := (y.out 1).1; have y2 := (y.out 2).1; have f0 := (y.out 0).2; have f1 := (y.out 1).2; have f2 := (y.out 2).2; rw [z0] at y0; rw [z1] at y1; rw [z2] at y2; rw [g0] at f0; rw [g1] at f1; rw [g2] at f2; clear hrow hw)
  clear z0 z1 z2 g0 g1 g2 y0 y1 y2 f0 f1 f2
  have hsz1 : w.heap.size + 1 ≤ w1.heap.size := hlt
  have hr2 : w.heap.size + 1 < w1.heap.size := by have := cell_lt (HR.out 0 (by omega)).1; simpa using this
  obtain ⟨W5, hW5⟩ : ∃ W5, W5 = ((((w1.alloc (.cells #[.string ⟨#[101, 117]⟩, .slice (some ⟨w.heap.size + 1, 0, none⟩) 2 2] 47)).alloc
      (.cells #[.int .i64 1800, .int .i64 (-1), .int .i64 0, .string ⟨#[76, 77, 84]⟩, .int .i64 500000000, .int .i64 3600, .int .i64 0, .int .i64 0, .string ⟨#[67, 69, 37, 115, 84]⟩, .int .i64 1893456000] 67)).alloc
      (.cells #[.int .i64 (-18000), .int .i64 (-1), .int .i64 3600, .string ⟨#[88, 84]⟩, .int .i64 1893456000] 67)).alloc
      (.cells #[.string old, .slice (some ⟨w1.heap.size + 1, 0, none⟩) 2 2, .string ⟨#[65, 47, 87, 101, 115, 116]⟩, .slice (some ⟨w1.heap.size + 1 + 1, 0, none⟩) 1 1] 51)).alloc
      (.cells #[.string ⟨#[84, 111, 119, 110]⟩, .string old, .string ⟨#[84]⟩, .string ⟨#[84, 111, 119, 110]⟩] 54) := ⟨_, rfl⟩
  have hs5 : W5.heap.size = w1.heap.size + 5 := by rw [hW5]; simp
  have hb5 : Below w1.heap.size w1 W5 := by rw [hW5]; exact (((((Below.refl _ w1).alloc (Nat.le_refl _) _).alloc (by simp) _).alloc (by simp; omega) _).alloc (by simp; omega) _).alloc (by simp; omega) _
  simp only [← hW5]
  have k0 : W5.heap[w1.heap.size]? = some (.cells #[.string ⟨#[101, 117]⟩, .slice (some ⟨w.heap.size + 1, 0, none⟩) 2 2] 47) := by rw [hW5]; exact (heap5 w1 _ _ _ _ _).1
  have k1 : W5.heap[w1.heap.size + 1]? = some (.cells #[.int .i64 1800, .int .i64 (-1), .int .i64 0, .string ⟨#[76, 77, 84]⟩, .int .i64 500000000, .int .i64 3600, .int .i64 0, .int .i64 0, .string ⟨#[67, 69, 37, 115, 84]⟩, .int .i64 1893456000] 67) := by rw [hW5]; exact (heap5 w1 _ _ _ _ _).2.1
  have k2 : W5.heap[w1.heap.size + 2]? = some (.cells #[.int .i64 (-18000), .int .i64 (-1), .int .i64 3600, .string ⟨#[88, 84]⟩, .int .i64 1893456000] 67) := by rw [hW5]; exact (heap5 w1 _ _ _ _ _).2.2.1
  have k3 : W5.heap[w1.heap.size + 3]? = some (.cells #[.string old, .slice (some ⟨w1.heap.size + 1, 0, none⟩) 2 2, .string ⟨#[65, 47, 87, 101, 115, 116]⟩, .slice (some ⟨w1.heap.size + 1 + 1, 0, none⟩) 1 1] 51) := by rw [hW5]; exact (heap5 w1 _ _ _ _ _).2.2.2.1
  have k4 : W5.heap[w1.heap.size + 4]? = some (.cells #[.string ⟨#[84, 111, 119, 110]⟩, .string old, .string ⟨#[84]⟩, .string ⟨#[84, 111, 119, 110]⟩] 54) := by rw [hW5]; exact (heap5 w1 _ _ _ _ _).2.2.2.2
  have hB5 : Below w.heap.size w W5 := bthen (bthen hb0.out HW.out) hb5
  have HR5 := HR.out.on hb5
  have C5 := heap_on C1.out hb5
  obtain ⟨z0, z1, z2⟩ := cells3 C5
  clear hW5 hb5 C1 HR HW hb0 y hlt C5
  have hBW := ((hB5.setCell (p := ⟨w.heap.size, 0, none⟩) (Nat.le_refl _) (.slice (some ⟨w1.heap.size, 0, none⟩) 1 1)).setCell (p := ⟨w.heap.size, 1, none⟩) (Nat.le_refl _) (.slice (some ⟨w1.heap.size + 1 + 1 + 1, 0, none⟩) 2 2)).setCell (p := ⟨w.heap.size, 2, none⟩) (Nat.le_refl _) (.slice (some ⟨w1.heap.size + 1 + 1 + 1 + 1, 0, none⟩) 2 2)
  refine bodyPost_ret (v := (eu (w.heap.size + 1) w1.heap.size (-1) old).v) (by simp [results, Tryz.results28, go_sem, z0, z1, z2, eu]) rfl ?_
  have hk : ∀ k, k ≠ w.heap.size → (((W5.setCell ⟨w.heap.size, 0, none⟩ (.slice (some ⟨w1.heap.size, 0, none⟩) 1 1)).setCell ⟨w.heap.size, 1, none⟩ (.slice (some ⟨w1.heap.size + 1 + 1 + 1, 0, none⟩) 2 2)).setCell ⟨w.heap.size, 2, none⟩ (.slice (some ⟨w1.heap.size + 1 + 1 + 1 + 1, 0, none⟩) 2 2)).heap[k]? = W5.heap[k]? := fun k h =>
    (Below.heap_setCell _ _ _ _ h).trans ((Below.heap_setCell _ _ _ _ h).trans (Below.heap_setCell _ _ _ _ h))
  generalize (((W5.setCell ⟨w.heap.size, 0, none⟩ (.slice (some ⟨w1.heap.size, 0, none⟩) 1 1)).setCell ⟨w.heap.size, 1, none⟩ (.slice (some ⟨w1.heap.size + 1 + 1 + 1, 0, none⟩) 2 2)).setCell ⟨w.heap.size, 2, none⟩ (.slice (some ⟨w1.heap.size + 1 + 1 + 1 + 1, 0, none⟩) 2 2)) = W at hk hBW ⊢
  have q0 := (hk _ (by omega)).trans k0
  have q1 := (hk _ (by omega)).trans k1
  have q2 := (hk _ (by omega)).trans k2
  have q3 := (hk _ (by omega)).trans k3
  have q4 := (hk _ (by omega)).trans k4
  refine ⟨w.heap.size + 1, w1.heap.size, rfl, ⟨?_, ?_, ?_, ?_, ?_⟩, by omega, by omega, hBW, q2, q4⟩
  · refine .inr ⟨w1.heap.size, 0, rfl, fun j hj => ?_⟩
    have : j = 0 := by simp [eu] at hj; omega
    subst this
    constructor <;> simp [World.cell?, q0, eu]
  · intro j hj
    refine .inr ⟨w.heap.size + 1, 0, rfl, fun i hi => ?_⟩
    have hc : ∀ o, W.cell? ⟨w.heap.size + 1, o, none⟩ = W5.cell? ⟨w.heap.size + 1, o, none⟩ := fun o => World.cell?_of_block (hk _ (by show w.heap.size + 1 ≠ w.heap.size; omega))
    have h9 := HR5 i hi
    simp only [World.size_alloc] at h9
    unfold RAt at h9 ⊢
    simp only [hc]
    exact h9
  · refine .inr ⟨w1.heap.size + 3, 0, rfl, fun j hj => ?_⟩
    have h : j = 0 ∨ j = 1 := by simp [eu] at hj; omega
    rcases h with rfl | rfl <;> constructor <;> simp [World.cell?, q3, eu]
  · intro j hj
    have h : j = 0 ∨ j = 1 := by simp [eu] at hj; omega
    rcases h with rfl | rfl
    · refine .inr ⟨w1.heap.size + 1, 0, rfl, fun i hi => ?_⟩
      have h : i = 0 ∨ i = 1 := by simp [eu] at hi; omega
      rcases h with rfl | rfl <;> refine ⟨?_, ?_, ?_, ?_, ?_⟩ <;> simp [World.cell?, q1, eu, eu1]
    · refine .inr ⟨w1.heap.size + 2, 0, rfl, fun i hi => ?_⟩
      have h : i = 0 := by simp [eu] at hi; omega
      subst h
      refine ⟨?_, ?_, ?_, ?_, ?_⟩ <;> simp [World.cell?, q2, eu, eu2]
  · refine .inr ⟨w1.heap.size + 4, 0, rfl, fun j hj => ?_⟩
    have h : j = 0 ∨ j = 1 := by simp [eu] at hj; omega
    rcases h with rfl | rfl <;> constructor <;> simp [World.cell?, q4, eu]
end Go.Proofs.YtbpdbggojgijiaaGreatDoor

/- Contracts of package off: eraAt. -/
namespace Go.Proofs.YtbpdbggojgijiaaGreatDoor
open Go Go.RowKit Go.Maps Go.Shelf
set_option linter.unusedVariables false
attribute [local go_sem] Oper.semAt_some

/-- which era has a time: the first one that ends behind it, else the last one -/
def eraI (es : Nat → Er) (n : Nat) (t : Int) : Nat := ((List.range n).find? fun j => decide (t < (es j).un)).getD (n - 1)
theorem eraI_at {es : Nat → Er} {n k : Nat} {t : Int} (hk : k < n) (h : t < (es k).un) (h0 : ∀ i, i < k → (es i).un ≤ t) : eraI es n t = k := by
  unfold eraI
  rw [find_range hk (by simpa using h) (fun i hi => by have := h0 i hi; simp; omega)]
  rfl
theorem eraI_no {es : Nat → Er} {n : Nat} {t : Int} (h0 : ∀ i, i < n → (es i).un ≤ t) : eraI es n t = n - 1 := by
  unfold eraI
  rw [List.find?_eq_none.2 (fun x hx => by have := h0 x (List.mem_range.1 hx); simp; omega)]
  rfl
abbrev eZ : Array Value := #[.int .i64 0, .int .i64 0, .int .i64 0, .string ⟨#[]⟩, .int .i64 0]
theorem cells5 {w : World} {b : Nat} {x y z u v : Value} {t : TypeId} (h : w.heap[b]? = some (.cells #[x, y, z, u, v] t)) : w.cell? ⟨b, 0, none⟩ = some x ∧ w.cell? ⟨b, 1, none⟩ = some y ∧ w.cell? ⟨b, 2, none⟩ = some z ∧ w.cell? ⟨b, 3, none⟩ = some u ∧ w.cell? ⟨b, 4, none⟩ = some v := by
  refine ⟨?_, ?_, ?_, ?_, ?_⟩ <;> simp [World.cell?, h]

theorem setCell_at {w : World} {b o : Nat} {cs : Array Value} {t : TypeId} (h : w.heap[b]? = some (.cells cs t)) (v : Value) : (w.setCell ⟨b, o, none⟩ v).heap[b]? = some (.cells (cs.setIfInBounds o v) t) := by
  have hlt := (Array.getElem?_eq_some_iff.1 h).1
  have h' := (Array.getElem?_eq_some_iff.1 h).2
  simp [World.setCell, hlt, Array.getElem_modify, h']
/-- five cells stored in a row -/
def set5 (w : World) (b : Nat) (x : Er) : World := ((((w.setCell ⟨b, 0, none⟩ (.int .i64 x.std)).setCell ⟨b, 1, none⟩ (.int .i64 x.set)).setCell ⟨b, 2, none⟩ (.int .i64 x.sv)).setCell ⟨b, 3, none⟩ (.string x.fm)).setCell ⟨b, 4, none⟩ (.int .i64 x.un)
theorem set5_at {w : World} {b : Nat} {c0 c1 c2 c3 c4 : Value} {t : TypeId} (h : w.heap[b]? = some (.cells #[c0, c1, c2, c3, c4] t)) (x : Er) : (set5 w b x).heap[b]? = some (.cells x.cs t) := by
  unfold set5
  exact setCell_at (setCell_at (setCell_at (setCell_at (setCell_at h _) _) _) _) _
theorem set5_other {w : World} {b k : Nat} (h : k ≠ b) (x : Er) : (set5 w b x).heap[k]? = w.heap[k]? := by
  unfold set5
  rw [Below.heap_setCell _ _ _ _ (by exact h), Below.heap_setCell _ _ _ _ (by exact h), Below.heap_setCell _ _ _ _ (by exact h), Below.heap_setCell _ _ _ _ (by exact h), Below.heap_setCell _ _ _ _ (by exact h)]
theorem set5_size (w : World) (b : Nat) (x : Er) : (set5 w b x).heap.size = w.heap.size := by unfold set5; simp
theorem set5_below {B : Nat} {w v : World} {b : Nat} (h : Below B w v) (hb : B ≤ b) (x : Er) : Below B w (set5 v b x) := by
  unfold set5
  exact ((((h.setCell (p := ⟨b, 0, none⟩) hb _).setCell (p := ⟨b, 1, none⟩) hb _).setCell (p := ⟨b, 2, none⟩) hb _).setCell (p := ⟨b, 3, none⟩) hb _).setCell (p := ⟨b, 4, none⟩) hb _
theorem set5_kept {B : Nat} {w : World} {b : Nat} (hb : b < B) (x : Er) : Kept B w (set5 w b x) := ⟨by rw [set5_size]; exact Nat.le_refl _, fun k h1 _ => set5_other (by omega) x⟩

/-- what holds between two rounds of eraAt -/
def OI (z : Zn) (t : Int) (w : World) (k : Nat) (W : World) : Prop := Below w.heap.size w W ∧ W.heap[w.heap.size + 4]? = some (.cells #[.slice z.a z.n z.c] 49) ∧ W.heap[w.heap.size + 1]? = some (.cells #[.int .i64 t] 3) ∧ W.heap[w.heap.size + 2]? = some (.cells eZ 67) ∧
  W.heap[w.heap.size + 3]? = some (.cells (if k = 0 then eZ else (z.es (k - 1)).cs) 67) ∧ ∀ i, i < k → (z.es i).un ≤ t
/-- what holds where it breaks -/
def OX (z : Zn) (t : Int) (w : World) (c : Code) (W : World) : Prop := c = .exit 0 ∧ Below w.heap.size w W ∧ W.heap[w.heap.size + 2]? = some (.cells eZ 67) ∧ W.heap[w.heap.size + 3]? = some (.cells (z.es (eraI z.es z.n t)).cs 67)

end Go.Proofs.YtbpdbggojgijiaaGreatDoor

/- The contract of the statements' own rulesBegun. -/
namespace Go.Proofs.YtbpdbggojgijiaaGreatDoor
open Go Go.RowKit
set_option linter.unusedVariables false
end Go.Proofs.YtbpdbggojgijiaaGreatDoor

/- Plain facts on rules: when they begin, and which of them has begun last. -/
namespace Go.Proofs.YtbpdbggojgijiaaGreatDoor
open Go Go.RowKit
set_option linter.unusedVariables false

/-- what is known where a day is found -/
theorem find_spec (y m k wk D : Int) (h : findE y m k wk D = 0) :
    ∃ F L P : Int, findR y m k wk D = P ∧ 28 ≤ L ∧ L ≤ 31 ∧ 0 ≤ F ∧ F + L - 1 < 21915 ∧ 1 ≤ P ∧ P ≤ L ∧ (k = 1 ∧ P = D ∨ k = 2 ∧ (F + P + 3) % 7 = wk ∧ (∀ i, 1 ≤ i → i ≤ L → (F + i + 3) % 7 = wk → i ≤ P) ∧ P = L - (F + L + 3 - wk) % 7 ∨ k = 3 ∧ (F + P + 3) % 7 = wk ∧ (∀ i, D ≤ i → i < P → (F + i + 3) % 7 ≠ wk) ∧ D ≤ P ∧ P ≤ D + 6)
      ∧ (∀ i, 1 ≤ i → i ≤ L → daysE y m i = 0 ∧ daysR y m i = F + i - 1 ∧ weekE (F + i - 1) = 0 ∧ weekR (F + i - 1) = (F + i + 3) % 7) ∧ (∀ i, L < i → daysE y m i = 3) := by
  have hc : chk k wk D = 0 := by
    by_cases hc : chk k wk D = 0
    · exact hc
    · simp only [findE, hc, if_false] at h
  have hok : Cal.okB y m 1 = true := by
    cases hok : Cal.okB y m 1
    · simp [findE, hc, hok] at h
    · rfl
  have hP : pickd k wk D (Cal.ml y m) (Cal.num y m 1) ≠ 0 := by
    intro e
    simp [findE, hc, hok, e] at h
  have hR : findR y m k wk D = pickd k wk D (Cal.ml y m) (Cal.num y m 1) := by simp [findR, hok, hc]
  obtain ⟨y1, y2, m1, m2, _, _⟩ := ok_of hok
  have hlb := Cal.ml_bd y m
  have hd : ∀ j, 1 ≤ j → j ≤ Cal.ml y m → daysE y m j = 0 ∧ daysR y m j = Cal.num y m 1 + j - 1 := by
    intro j h1 h2
    have : Cal.okB y m j = true := ok_mk (by omega)
    exact ⟨by simp [daysE, this], by simp only [daysR, this, if_true, Cal.num]; omega⟩
  have hn : ∀ j, Cal.ml y m < j → daysE y m j = 3 := by
    intro j h1
    have : Cal.okB y m j = false := ok_not (by omega)
    simp [daysE, this]
  have hb1 := daysR_bd y m 1
  have hb2 := daysR_bd y m (Cal.ml y m)
  rw [(hd _ (by omega) (by omega)).2] at hb1 hb2
  generalize Cal.num y m 1 = F at *
  generalize Cal.ml y m = L at *
  have h3 : k = 1 ∨ k = 2 ∨ k = 3 := by unfold chk at hc; omega
  have hw : ∀ i, 1 ≤ i → i ≤ L → daysE y m i = 0 ∧ daysR y m i = F + i - 1 ∧ weekE (F + i - 1) = 0 ∧ weekR (F + i - 1) = (F + i + 3) % 7 := by
    intro i h1 h2
    have hday : Cal.dayB (F + i - 1) = true := day_mk (by omega)
    refine ⟨(hd i h1 h2).1, (hd i h1 h2).2, by simp [weekE, hday], ?_⟩
    simp only [weekR, hday, if_true]
    rw [show F + i - 1 + 4 = F + i + 3 from by omega]
  refine ⟨F, L, pickd k wk D L F, hR, hlb.1, hlb.2, by omega, by omega, ?_, ?_, ?_, hw, hn⟩
  · unfold chk at hc; rcases h3 with rfl | rfl | rfl <;> (unfold pickd at *; simp only [Int.reduceEq, if_false, if_true] at *; omega)
  · unfold chk at hc; rcases h3 with rfl | rfl | rfl <;> (unfold pickd at *; simp only [Int.reduceEq, if_false, if_true] at *; omega)
  · unfold chk at hc
    rcases h3 with rfl | rfl | rfl
    · left
      refine ⟨rfl, ?_⟩
      simp only [pickd, if_true] at hP ⊢
      by_cases hDL : D ≤ L
      · rw [if_pos hDL]
      · rw [if_neg hDL] at hP; exact absurd rfl hP
    · right; left
      unfold pickd at *; simp only [Int.reduceEq, if_false, if_true] at *
      exact ⟨trivial, by omega, fun i h1 h2 h3 => by omega, trivial⟩
    · right; right
      unfold pickd at *; simp only [Int.reduceEq, if_false] at *
      by_cases hl : D + (wk - (F + D + 3)) % 7 ≤ L
      · rw [if_pos hl] at *
        exact ⟨trivial, by omega, fun i h1 h2 => by omega, by omega, by omega⟩
      · rw [if_neg hl] at hP; exact absurd rfl hP


theorem rchk_yrs {r : Rl} (h : rchk r = 0) : ∀ y, r.f ≤ y → y ≤ r.t → findE y r.m r.k r.wk r.D = 0 := by
  rcases rchk_cases r with ⟨_, h1⟩ | ⟨_, ⟨h0, h1⟩ | ⟨_, ⟨_, h1⟩ | ⟨_, ⟨_, h1⟩ | ⟨h2, _⟩⟩⟩⟩
  · rw [h] at h1; omega
  · rw [h] at h1; exact absurd h1.symm h0
  · rw [h] at h1; omega
  · rw [h] at h1; omega
  · exact (yrs_iff r).1 h2
/-- A rule begins later from year to year. -/
theorem beg_next {r : Rl} (h : rchk r = 0) (y std : Int) (h1 : r.f ≤ y) (h2 : y + 1 ≤ r.t) : begR r y std < begR r (y + 1) std := by
  have hb := bnd_of (rchk_bnd h)
  obtain ⟨F, L, P, e1, a1, a2, a3, a4, a5, a6, _, hall, _⟩ := find_spec y r.m r.k r.wk r.D (rchk_yrs h y h1 (by omega))
  obtain ⟨F', L', P', e1', a1', a2', a3', a4', a5', a6', _, hall', _⟩ := find_spec (y + 1) r.m r.k r.wk r.D (rchk_yrs h (y + 1) (by omega) h2)
  have d1 := (hall P a5 a6).1
  have d2 := (hall' P' a5' a6').1
  have ok1 : Cal.okB y r.m P = true := by
    cases hk : Cal.okB y r.m P
    · simp [daysE, hk] at d1
    · rfl
  have ok2 : Cal.okB (y + 1) r.m P' = true := by
    cases hk : Cal.okB (y + 1) r.m P'
    · simp [daysE, hk] at d2
    · rfl
  unfold begR
  rw [e1, e1']
  simp only [daysR, ok1, ok2, if_true, Cal.num]
  have s := Cal.ahead_succ y
  have l := Cal.lp01 y
  have c1 : Cal.cum y r.m ≤ Cal.cum (y + 1) r.m + 1 := by unfold Cal.cum Cal.lp; omega
  omega
theorem beg_std (r : Rl) (y std : Int) : begR r y (std - 3600) = begR r y std + 3600 := by unfold begR; omega
/-- what Last tells, told by what holds of it -/
theorem last_ok (rs : Nat → Rl) (n : Nat) (std t : Int) (h : lastE rs n std t = 0) :
    n ≤ 4 ∧ (∀ j, j < n → rchk (rs j) = 0) ∧ -50400 ≤ std ∧ std ≤ 50400 ∧ 0 ≤ t ∧ t < 1893456000 ∧ latR rs std t n = (lastK rs n std t, lastN rs n std t) ∧ 0 ≤ lastK rs n std t := by
  rcases last_cases rs n std t with ⟨_, h1, _⟩ | ⟨h4, h'⟩
  · omega
  · rcases h' with ⟨h0, h1, _⟩ | ⟨hf, h'⟩
    · omega
    · rcases h' with ⟨_, h1, _⟩ | ⟨hs, h'⟩
      · omega
      · rcases h' with ⟨_, h1, _⟩ | ⟨ht, h'⟩
        · omega
        · rcases h' with ⟨_, h1, _⟩ | ⟨hl, h1, h2, h3⟩
          · omega
          · have a := in_of hs
            have b := in_of ht
            exact ⟨h4, first_zero rs n hf, a.1, a.2, b.1, by omega, by rw [h2, h3], by omega⟩
theorem first_all (rs : Nat → Rl) (n : Nat) (h : ∀ j, j < n → rchk (rs j) = 0) : firstErr rs n = 0 := by
  induction n with
  | zero => rfl
  | succ k ih => exact first_next rs k (ih fun j hj => h j (by omega)) (h k (by omega))
/-- what Last tells of right rules, at a time that there is -/
theorem last_eval (rs : Nat → Rl) (n : Nat) (std t : Int) (h4 : n ≤ 4) (hr : ∀ j, j < n → rchk (rs j) = 0) (s1 : -50400 ≤ std) (s2 : std ≤ 50400) :
    ((t < 0 ∨ 1893456000 ≤ t) ∧ lastE rs n std t = 3) ∨ (0 ≤ t ∧ t < 1893456000 ∧ (((latR rs std t n).1 < 0 ∧ lastE rs n std t = 4) ∨ (0 ≤ (latR rs std t n).1 ∧ lastE rs n std t = 0))) := by
  rcases last_cases rs n std t with ⟨h, _⟩ | ⟨_, h'⟩
  · omega
  · rcases h' with ⟨h, _⟩ | ⟨_, h'⟩
    · exact absurd (first_all rs n hr) h
    · rcases h' with ⟨hs, _⟩ | ⟨_, h'⟩
      · rw [in_mk ⟨s1, s2⟩] at hs; cases hs
      · rcases h' with ⟨ht, h1, _⟩ | ⟨ht, h'⟩
        · left; exact ⟨by unfold inB at ht; simp at ht; omega, h1⟩
        · right
          have := in_of ht
          refine ⟨this.1, by omega, ?_⟩
          rcases h' with ⟨hl, h1, _⟩ | ⟨hl, h1, _⟩
          · exact .inl ⟨hl, h1⟩
          · exact .inr ⟨by omega, h1⟩
abbrev InvR (rs : Nat → Rl) (n : Nat) (std t : Int) (acc : Int × Int) : Prop := Lat.Inv t (fun i y => begR (rs i) y std) (fun i y => i < n ∧ (rs i).f ≤ y ∧ y ≤ (rs i).t) acc
theorem inv_latR (rs : Nat → Rl) (n : Nat) (std t : Int) : InvR rs n std t (latR rs std t n) := Lat.inv_lat t (fun i => (rs i).f) (fun i => (rs i).t) (fun i y => begR (rs i) y std) n
/-- the later time's answer, by the earlier one's -/
theorem last_later (rs : Nat → Rl) (n : Nat) (std one two : Int) (h : lastE rs n std one = 0) :
    (lastE rs n std two = 0 ∧ (one ≤ two → lastN rs n std one ≤ lastN rs n std two)) ∨ lastE rs n std two = 3 ∨ (lastE rs n std two = 4 ∧ two < one) := by
  obtain ⟨h4, hr, s1, s2, t1, t2, hl, hk⟩ := last_ok rs n std one h
  rcases last_eval rs n std two h4 hr s1 s2 with ⟨_, h3⟩ | ⟨u1, u2, ⟨hn, h3⟩ | ⟨hn, h3⟩⟩
  · exact .inr (.inl h3)
  · right; right
    refine ⟨h3, ?_⟩
    rcases Int.lt_or_le two one with hlt | hge
    · exact hlt
    · have := Lat.inv_mono one two hge _ _ _ _ (inv_latR rs n std one) (inv_latR rs n std two) (by rw [hl]; exact hk)
      omega
  · left
    refine ⟨h3, fun hle => ?_⟩
    have := Lat.inv_mono one two hle _ _ _ _ (inv_latR rs n std one) (inv_latR rs n std two) (by rw [hl]; exact hk)
    rw [(last_ok rs n std two h3).2.2.2.2.2.2.1, hl] at this
    exact this.2
/-- which rule was told, and when it begins -/
theorem last_which (rs : Nat → Rl) (n : Nat) (std t : Int) (h : lastE rs n std t = 0) :
    ∃ k : Nat, k < n ∧ lastK rs n std t = k ∧ lastN rs n std t ≤ t ∧ (∃ y, (rs k).f ≤ y ∧ y ≤ (rs k).t ∧ begR (rs k) y std = lastN rs n std t) ∧
      (0 ≤ lastN rs n std t → lastE rs n std (lastN rs n std t) = 0 ∧ lastK rs n std (lastN rs n std t) = k ∧ lastN rs n std (lastN rs n std t) = lastN rs n std t) := by
  obtain ⟨h4, hr, s1, s2, t1, t2, hl, hk⟩ := last_ok rs n std t h
  have hi := inv_latR rs n std t
  have ha := Lat.inv_again t _ _ _ hi (by rw [hl]; exact hk)
  rw [hl] at hi ha
  rcases hi with ⟨e, _⟩ | ⟨k, y, ⟨p1, p2, p3⟩, e, hle, _⟩
  · have := congrArg Prod.fst e; simp only at this; omega
  · have e1 := congrArg Prod.fst e
    have e2 := congrArg Prod.snd e
    simp only at e1 e2
    have hle' : begR (rs k) y std ≤ t := hle
    clear hle
    refine ⟨k, p1, e1, by omega, ⟨y, p2, p3, e2.symm⟩, ?_⟩
    intro h0
    have hu := Lat.inv_unique _ _ _ _ _ (inv_latR rs n std (lastN rs n std t)) ha
    rcases last_eval rs n std (lastN rs n std t) h4 hr s1 s2 with ⟨q, _⟩ | ⟨_, _, ⟨q, _⟩ | ⟨_, q⟩⟩
    · omega
    · rw [hu] at q; simp only at q; omega
    · have := (last_ok rs n std (lastN rs n std t) q).2.2.2.2.2.2.1
      rw [hu] at this
      have g1 := congrArg Prod.fst this
      have g2 := congrArg Prod.snd this
      simp only at g1 g2
      exact ⟨q, by omega, g2.symm⟩
end Go.Proofs.YtbpdbggojgijiaaGreatDoor

/- Contracts of package off: firstLetter, ruled. -/
namespace Go.Proofs.YtbpdbggojgijiaaGreatDoor
open Go Go.RowKit Go.Maps
set_option linter.unusedVariables false

/-- the letter of the first rule that saves nothing; none: empty -/
def fstL (rs : Nat → Rl) (n : Nat) : ByteArray := match (List.range n).find? fun j => decide ((rs j).sv = 0) with | some j => (rs j).s | none => ⟨#[]⟩
theorem fstL_at {rs : Nat → Rl} {n k : Nat} (hk : k < n) (h : (rs k).sv = 0) (h0 : ∀ i, i < k → (rs i).sv ≠ 0) : fstL rs n = (rs k).s := by
  unfold fstL
  rw [find_range hk (by simpa using h) (fun i hi => by simpa using h0 i hi)]
theorem fstL_no {rs : Nat → Rl} {n : Nat} (h0 : ∀ i, i < n → (rs i).sv ≠ 0) : fstL rs n = ⟨#[]⟩ := by
  unfold fstL
  rw [List.find?_eq_none.2 (fun x hx => by simpa using h0 x (List.mem_range.1 hx))]
theorem fstL_size {rs : Nat → Rl} {n : Nat} {m : Nat} (h : ∀ i, i < n → (rs i).s.size ≤ m) : (fstL rs n).size ≤ m := by
  unfold fstL
  split
  · rename_i j hj
    exact h j (List.mem_range.1 (List.mem_of_find?_eq_some hj))
  · exact Nat.zero_le _
/-- what rules save, and their letter -/
def rulS (rs : Nat → Rl) (n : Nat) (std t : Int) : Int := if lastE rs n std t = 0 then (rs (lastK rs n std t).toNat).sv else 0
def rulL (rs : Nat → Rl) (n : Nat) (std t : Int) : ByteArray := if lastE rs n std t = 0 then (rs (lastK rs n std t).toNat).s else fstL rs n
end Go.Proofs.YtbpdbggojgijiaaGreatDoor
