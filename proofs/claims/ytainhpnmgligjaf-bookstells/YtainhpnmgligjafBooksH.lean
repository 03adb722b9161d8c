/- The statements' own books: shelf; what books.Check and books.Text answer of it. -/
import Derived.Test.YtainhpnmgligjafBooksG
namespace Go.Proofs.Ytainhpnmgligjaf
open Go Go.RowKit
set_option linter.unusedVariables false

def sk1 (j : Nat) : ByteArray := if j = 0 then ⟨#[65, 47, 87, 101, 115, 116]⟩ else if j = 1 then ⟨#[109, 105, 100, 47, 100]⟩ else ⟨#[109, 105, 100, 47, 115]⟩
def st1 (j : Nat) : ByteArray := if j = 0 then ⟨#[87, 101, 115, 116]⟩ else if j = 1 then ⟨#[77, 68, 84]⟩ else ⟨#[77, 83, 84]⟩
def sk2 (j : Nat) : ByteArray := if j = 0 then ⟨#[65, 47, 87, 101, 115, 116]⟩ else ⟨#[109, 105, 100, 47, 115]⟩
def st2 (j : Nat) : ByteArray := if j = 0 then ⟨#[]⟩ else ⟨#[109, 115, 116]⟩
/-- shelf: pairs in blocks a and b; the parent of the first -/
def shf (a b : Nat) (p : Int) (j : Nat) : Bk := if j = 0 then ⟨⟨#[114, 111, 111, 116]⟩, p, some ⟨a, 0, none⟩, 3, 3, sk1, st1⟩ else ⟨⟨#[120, 120]⟩, 0, some ⟨b, 0, none⟩, 2, 2, sk2, st2⟩
set_option maxRecDepth 100000 in
theorem sh_ok (a b : Nat) : bchk 2 (shf a b (-1)) = 0 := by kernel_rfl
set_option maxRecDepth 100000 in
theorem sh_range (a b : Nat) : bchk 2 (shf a b 0) = 3 := by kernel_rfl
set_option maxRecDepth 100000 in
theorem sh_1 (a b : Nat) : btT (shf a b (-1)) 2 ⟨#[120, 120]⟩ ⟨#[109, 105, 100, 47, 115]⟩ = ⟨#[109, 115, 116]⟩ ∧ btE (shf a b (-1)) 2 ⟨#[120, 120]⟩ = 0 := ⟨by kernel_rfl, by kernel_rfl⟩
set_option maxRecDepth 100000 in
theorem sh_2 (a b : Nat) : btT (shf a b (-1)) 2 ⟨#[120, 120]⟩ ⟨#[109, 105, 100, 47, 100]⟩ = ⟨#[77, 68, 84]⟩ := by kernel_rfl
set_option maxRecDepth 100000 in
theorem sh_3 (a b : Nat) : btT (shf a b (-1)) 2 ⟨#[120, 120]⟩ ⟨#[65, 47, 87, 101, 115, 116]⟩ = ⟨#[]⟩ := by kernel_rfl
set_option maxRecDepth 100000 in
theorem sh_4 (a b : Nat) : btE (shf a b (-1)) 2 ⟨#[121, 121]⟩ = 4 := by kernel_rfl
def sA : Obj := .cells #[.string ⟨#[65, 47, 87, 101, 115, 116]⟩, .string ⟨#[87, 101, 115, 116]⟩, .string ⟨#[109, 105, 100, 47, 100]⟩, .string ⟨#[77, 68, 84]⟩, .string ⟨#[109, 105, 100, 47, 115]⟩, .string ⟨#[77, 83, 84]⟩] 34
def sB : Obj := .cells #[.string ⟨#[65, 47, 87, 101, 115, 116]⟩, .string ⟨#[]⟩, .string ⟨#[109, 105, 100, 47, 115]⟩, .string ⟨#[109, 115, 116]⟩] 34
def sC (a b : Nat) (p : Int) : Obj := .cells #[.string ⟨#[114, 111, 111, 116]⟩, .int .i64 p, .slice (some ⟨a, 0, none⟩) 3 3, .string ⟨#[120, 120]⟩, .int .i64 0, .slice (some ⟨b, 0, none⟩) 2 2] 31
/-- a shelf lies in a world -/
structure SAt (w : World) (a b s : Nat) (p : Int) : Prop where
  ha : w.heap[a]? = some sA
  hb : w.heap[b]? = some sB
  hs : w.heap[s]? = some (sC a b p)
theorem SAt.on {w w' : World} {a b s : Nat} {p : Int} (h : SAt w a b s p) (hb : Below w.heap.size w w') : SAt w' a b s p := ⟨heap_onB h.ha hb, heap_onB h.hb hb, heap_onB h.hs hb⟩
theorem SAt.books {w : World} {a b s : Nat} {p : Int} (h : SAt w a b s p) : BAt w (some ⟨s, 0, none⟩) 2 (shf a b p) := by
  refine ⟨.inr ⟨s, 0, rfl, fun j hj => ?_⟩, fun j hj => ?_⟩
  · rcases (show j = 0 ∨ j = 1 by omega) with rfl | rfl
    · refine ⟨?_, ?_, ?_⟩ <;> simp [World.cell?, h.hs, sC, shf]
    · refine ⟨?_, ?_, ?_⟩ <;> simp [World.cell?, h.hs, sC, shf]
  · rcases (show j = 0 ∨ j = 1 by omega) with rfl | rfl
    · refine .inr ⟨a, 0, rfl, fun i hi => ?_⟩
      have hi : i < 3 := hi
      rcases (show i = 0 ∨ i = 1 ∨ i = 2 by omega) with rfl | rfl | rfl
      · constructor <;> simp [World.cell?, h.ha, sA, shf, sk1, st1]
      · constructor <;> simp [World.cell?, h.ha, sA, shf, sk1, st1]
      · constructor <;> simp [World.cell?, h.ha, sA, shf, sk1, st1]
    · refine .inr ⟨b, 0, rfl, fun i hi => ?_⟩
      have hi : i < 2 := hi
      rcases (show i = 0 ∨ i = 1 by omega) with rfl | rfl
      · constructor <;> simp [World.cell?, h.hb, sB, shf, sk2, st2]
      · constructor <;> simp [World.cell?, h.hb, sB, shf, sk2, st2]
theorem sk1_10 (i : Nat) : (sk1 i).size ≤ 10 := by
  unfold sk1; split
  · decide
  · split <;> decide
theorem st1_10 (i : Nat) : (st1 i).size ≤ 10 := by
  unfold st1; split
  · decide
  · split <;> decide
theorem sk2_10 (i : Nat) : (sk2 i).size ≤ 10 := by unfold sk2; split <;> decide
theorem st2_10 (i : Nat) : (st2 i).size ≤ 10 := by unfold st2; split <;> decide
theorem shf_fits (a b : Nat) {p : Int} (hp : p = -1 ∨ p = 0) (j : Nat) : (shf a b p j).fits := by
  have hm : ∀ n, n ≤ 10 → n ≤ maxLen := fun n hn => by unfold maxLen; omega
  unfold shf
  split
  · constructor
    case lc => exact hm _ (show ByteArray.size ⟨#[114, 111, 111, 116]⟩ ≤ 10 by decide)
    case n => exact hm _ (show 3 ≤ 10 by decide)
    case ks => exact fun i _ => hm _ (sk1_10 i)
    case ts => exact fun i _ => hm _ (st1_10 i)
    all_goals (simp; omega)
  · constructor
    case lc => exact hm _ (show ByteArray.size ⟨#[120, 120]⟩ ≤ 10 by decide)
    case n => exact hm _ (show 2 ≤ 10 by decide)
    case ks => exact fun i _ => hm _ (sk2_10 i)
    case ts => exact fun i _ => hm _ (st2_10 i)
    all_goals simp
set_option maxRecDepth 100000 in
set_option maxHeartbeats 1000000 in
theorem shelf_c (w : World) : Calls Try.prog 16 #[] w fun e w' => ∃ a b s, e = .returned (.slice (some ⟨s, 0, none⟩) 2 2) ∧ SAt w' a b s (-1) ∧ Below w.heap.size w w' ∧ w.heap.size ≤ s ∧ a ≠ s ∧ b ≠ s := by
  have KB : Hid (∀ c : Obj, Below w.heap.size w (((w.alloc sA).alloc sB).alloc c)) := fun c => (((Below.refl _ w).alloc (Nat.le_refl _) _).alloc (by simp) _).alloc (by simp; omega) _
  have KS : Hid (SAt (((w.alloc sA).alloc sB).alloc (sC w.heap.size (w.heap.size + 1) (-1))) w.heap.size (w.heap.size + 1) (w.heap.size + 1 + 1) (-1)) := by
    refine ⟨?_, ?_, ?_⟩
    · rw [Below.heap_alloc _ _ _ (by simp; omega), Below.heap_alloc _ _ _ (by simp)]; exact World.alloc_heap_new _ _
    · rw [Below.heap_alloc _ _ _ (by simp)]
      have := World.alloc_heap_new (w.alloc sA) sB
      rwa [World.size_alloc] at this
    · have := World.alloc_heap_new ((w.alloc sA).alloc sB) (sC w.heap.size (w.heap.size + 1) (-1))
      rwa [World.size_alloc, World.size_alloc] at this
  go_enter Try.func16, Try.ntmps16
  go_wp2_with fail
  go_ret
  exact ⟨w.heap.size, w.heap.size + 1, w.heap.size + 1 + 1, rfl, KS.out, KB.out _, by omega, by omega, by omega⟩
end Go.Proofs.Ytainhpnmgligjaf
