/- How lists of texts and of nodes that are handed in lie in memory. -/
import Derived.Test.YtfjjdicgekgbeaaGreatDoorRows
import Derived.Test.YtfjjdicgekgbeaaGreatDoorTrieGAll
import Derived.ProofKit
import Derived.LaidMore
import Derived.OpenShut
import Derived.Stop.Joined
import Derived.Deep.Slices
import Derived.Deep.Strs
import Derived.Carry
import Derived.SizedLaws
namespace Go.Proofs.YtfjjdicgekgbeaaGreatDoor.Tri
open Go Go.ChangeShapes Go.WideShapes Go.ChangeAt Go.RowKit Go.Deep
set_option maxRecDepth 100000
set_option linter.unusedVariables false
set_option linter.unnecessarySimpa false

theorem own : ownKnob Tryz.prog.godebug = none := by kernel_rfl
theorem laidOut : laidOutB Tryz.prog = true := by kernel_rfl
theorem add_plain (b off k : Nat) : (⟨b, off, none⟩ : Addr).add k = ⟨b, off + k, none⟩ := by
  unfold Addr.add
  split
  · rename_i h; rw [h]; rfl
  · rfl
theorem slice_of {H : Type} {enc : TypeId × Value → H} {w : World} {sp : Nat → Bool} {hd : Bool} {fuel : Nat} {cs : List Value} {y : DataW H × List MemPlace} {t e : TypeId} {k : Nat}
    (ht : Tryz.prog.underlying t = some (.slice e)) (hk : Tryz.prog.cellsOf e = k) (hk0 : 0 < k) (h : DataW.trod enc Tryz.prog w 0 sp hd fuel t cs = some y) :
    ∃ (a : Option Addr) (n cap : Nat), cs = [.slice a n cap] ∧ n ≤ maxLen ∧ n ≤ cap ∧ (n = 0 ∨ ∃ b off, a = some ⟨b, off, none⟩ ∧ ∃ m : Nat, ∀ j, j < n → ∃ (cs' : List Value) (y' : DataW H × List MemPlace), cs'.length = k ∧ (∀ i, i < k → w.cell? ⟨b, off + j * k + i, none⟩ = cs'[i]?) ∧ DataW.trod enc Tryz.prog w 0 sp hd m e cs' = some y') := by
  rcases open_slice ht h with ⟨hcs, _⟩ | ⟨x, len, cap, m, n, D, Pl, hcs, _, hl, hm, hmm, _, hx⟩
  · exact ⟨none, 0, 0, hcs, Nat.zero_le _, Nat.le_refl _, .inl rfl⟩
  · refine ⟨some x, len, cap, hcs, by omega, hl, ?_⟩
    have hlm : len ≤ m := by rw [hmm]; split <;> omega
    rw [hk] at hx
    by_cases h0 : len = 0
    · exact .inl h0
    · right
      obtain ⟨b, off, spot⟩ := x
      have hspot : spot = none := by
        obtain ⟨cs', hc, _⟩ := hx 0 (by omega)
        obtain ⟨_, hlen, hcell⟩ := World.cells?_some hc
        have h1 := hcell 0 hk0
        rw [List.getElem?_eq_getElem (by omega)] at h1
        have h2 : w.cell? ⟨b, off, spot⟩ = some cs'[0] := by simpa [Addr.add] using h1
        exact World.cell?_spot h2
      subst hspot
      refine ⟨b, off, rfl, n, fun j hj => ?_⟩
      obtain ⟨cs', hc, ht⟩ := hx j (by omega)
      obtain ⟨_, hlen, hcell⟩ := World.cells?_some hc
      refine ⟨cs', _, hlen, fun i hi => ?_, ht⟩
      have := hcell i hi
      rwa [add_plain, add_plain] at this
theorem cellsStr : Tryz.prog.cellsOf 9 = 1 := by kernel_rfl
theorem cellsInt : Tryz.prog.cellsOf 3 = 1 := by kernel_rfl
theorem cellsByte : Tryz.prog.cellsOf 5 = 1 := by kernel_rfl
theorem cellsEdge : Tryz.prog.cellsOf 45 = 2 := by kernel_rfl
theorem cellsEdges : Tryz.prog.cellsOf 41 = 1 := by kernel_rfl
theorem cellsNode : Tryz.prog.cellsOf 43 = 2 := by kernel_rfl
theorem choose_lt {α : Type} [Inhabited α] {n : Nat} {p : Nat → α → Prop} (h : ∀ j, j < n → ∃ x, p j x) : ∃ f : Nat → α, ∀ j, j < n → p j (f j) := by
  refine ⟨fun j => if hj : j < n then Classical.choose (h j hj) else default, fun j hj => ?_⟩
  simp only [dif_pos hj]
  exact Classical.choose_spec (h j hj)
variable {H : Type} {enc : TypeId × Value → H} {w : World} {sp : Nat → Bool} {hd : Bool}
/-- texts that are handed in -/
theorem open_texts {r0 : Reach} {b0 : Nat} {v : Value} {d : DataW H} {p : List MemPlace}
    (hv : Value.okWide Tryz.prog w r0 b0 31 v) (h : DataW.Trod enc Tryz.prog w 0 sp hd 31 v d p) : ∃ (a : Option Addr) (n c : Nat) (ss : Nat → ByteArray), v = .slice a n c ∧ n ≤ maxLen ∧ n ≤ c ∧ TxA w a n ss ∧ ∀ j, j < n → (ss j).size ≤ maxLen := by
  obtain ⟨a', n', c', rfl⟩ := okWide_slice Tryz.underlying31 hv
  obtain ⟨fuel, hf⟩ := h
  obtain ⟨a, m, cap, g2, hm, hc, hr⟩ := slice_of Tryz.underlying31 cellsStr (by omega) hf
  have e : Value.slice a' n' c' = .slice a m cap := by simpa [Value.cells] using g2
  rcases hr with rfl | ⟨b, off, rfl, k, hj⟩
  · exact ⟨a, 0, cap, fun _ => ⟨#[]⟩, e, hm, hc, .inl rfl, fun j hj => absurd hj (Nat.not_lt_zero _)⟩
  · obtain ⟨xs, hxs⟩ := choose_lt (α := ByteArray) (n := m) (p := fun j x => w.cell? ⟨b, off + j, none⟩ = some (.string x) ∧ x.size ≤ maxLen) (fun j hlt => by
      obtain ⟨cs', y', hlen, hcell, ht⟩ := hj j hlt
      obtain ⟨s, g0, _, hs⟩ := DataW.trod_string Tryz.underlying9 ht
      subst g0
      exact ⟨s, by simpa using hcell 0 (by omega), hs⟩)
    exact ⟨_, m, cap, xs, e, hm, hc, .inr ⟨b, off, rfl, fun j hlt => (hxs j hlt).1⟩, fun j hlt => (hxs j hlt).2⟩
theorem edge_of {fuel : Nat} {cs : List Value} {y : DataW H × List MemPlace} (h : DataW.trod enc Tryz.prog w 0 sp hd fuel 45 cs = some y) : ∃ x : UInt8 × Int, cs = [.int .u8 (x.1.toNat : Int), .int .i64 x.2] := by
  obtain ⟨y0, y1, n, _, hl, f0, f1⟩ := trod_struct2 Tryz.underlying45 h
  rw [cellsEdge] at hl
  match cs, hl with
  | [c0, c1], _ =>
    have f0' : DataW.trod enc Tryz.prog w 0 sp hd n 5 [c0] = some y0 := by simpa [cellsByte] using f0
    have f1' : DataW.trod enc Tryz.prog w 0 sp hd n 3 [c1] = some y1 := by simpa [cellsInt] using f1
    obtain ⟨p, g0, _, hp⟩ := DataW.trod_int Tryz.underlying5 f0'
    obtain ⟨q, g1, _, hq⟩ := DataW.trod_int Tryz.underlying3 f1'
    simp at g0 g1
    have hpb : 0 ≤ p ∧ p ≤ 255 := bounds_u8 hp
    refine ⟨(UInt8.ofNat p.toNat, q), ?_⟩
    rw [g0, g1]
    have : ((UInt8.ofNat p.toNat).toNat : Int) = p := by
      rw [UInt8.toNat_ofNat']
      omega
    simp only [this]
theorem node_of {fuel : Nat} {cs : List Value} {y : DataW H × List MemPlace} (h : DataW.trod enc Tryz.prog w 0 sp hd fuel 43 cs = some y) : ∃ (x : Nd) (ea : Option Addr) (ec : Nat), cs = [.slice ea x.es.length ec, .int .i64 x.wd] ∧ x.es.length ≤ maxLen ∧ EdL w ea x.es := by
  obtain ⟨y0, y1, n, _, hl, f0, f1⟩ := trod_struct2 Tryz.underlying43 h
  rw [cellsNode] at hl
  match cs, hl with
  | [c0, c1], _ =>
    have f0' : DataW.trod enc Tryz.prog w 0 sp hd n 41 [c0] = some y0 := by simpa [cellsEdges] using f0
    have f1' : DataW.trod enc Tryz.prog w 0 sp hd n 3 [c1] = some y1 := by simpa [cellsInt] using f1
    obtain ⟨q, g1, _, hq⟩ := DataW.trod_int Tryz.underlying3 f1'
    obtain ⟨a, m, cap, g2, hm, _, hr⟩ := slice_of Tryz.underlying41 cellsEdge (by omega) f0'
    simp at g1 g2
    rcases hr with rfl | ⟨b, off, rfl, k, hj⟩
    · exact ⟨⟨[], q⟩, a, cap, by simp [g1, g2], by simp, .inl rfl⟩
    · obtain ⟨xs, hxs⟩ := choose_lt (α := UInt8 × Int) (n := m) (p := fun j x => w.cell? ⟨b, off + j * 2, none⟩ = some (.int .u8 (x.1.toNat : Int)) ∧ w.cell? ⟨b, off + j * 2 + 1, none⟩ = some (.int .i64 x.2)) (fun j hlt => by
        obtain ⟨cs', y', hlen, hcell, ht⟩ := hj j hlt
        obtain ⟨x, rfl⟩ := edge_of ht
        exact ⟨x, by simpa using hcell 0 (by omega), by simpa using hcell 1 (by omega)⟩)
      have hl : ((List.range m).map xs).length = m := by simp
      refine ⟨⟨(List.range m).map xs, q⟩, some ⟨b, off, none⟩, cap, by simp [g1, g2], by simpa using hm, .inr ⟨b, off, rfl, fun j hj => ?_⟩⟩
      simp only [List.length_map, List.length_range] at hj
      have e1 : eC ((List.range m).map xs) j = (xs j).1 := by unfold eC; simp [hj]
      have e2 : eT ((List.range m).map xs) j = (xs j).2 := by unfold eT; simp [hj]
      rw [e1, e2]
      exact hxs j hj
/-- nodes that are handed in -/
theorem open_trie {r0 : Reach} {b0 : Nat} {v : Value} {d : DataW H} {p : List MemPlace}
    (hv : Value.okWide Tryz.prog w r0 b0 38 v) (h : DataW.Trod enc Tryz.prog w 0 sp hd 38 v d p) : ∃ (a : Option Addr) (c : Nat) (t : List Nd), v = .slice a t.length c ∧ fitT t ∧ TrL w a t := by
  obtain ⟨a', n', c', rfl⟩ := okWide_slice Tryz.underlying38 hv
  obtain ⟨fuel, hf⟩ := h
  obtain ⟨a, m, cap, g2, hm, hc, hr⟩ := slice_of Tryz.underlying38 cellsNode (by omega) hf
  have e : Value.slice a' n' c' = .slice a m cap := by simpa [Value.cells] using g2
  rcases hr with rfl | ⟨b, off, rfl, k, hj⟩
  · exact ⟨a, cap, [], e, ⟨by simp, fun j hj => absurd hj (Nat.not_lt_zero _)⟩, .inl rfl⟩
  · haveI : Inhabited Nd := ⟨⟨[], -1⟩⟩
    obtain ⟨xs, hxs⟩ := choose_lt (α := Nd) (n := m) (p := fun j x => (∃ ea ec, w.cell? ⟨b, off + j * 2, none⟩ = some (.slice ea x.es.length ec) ∧ w.cell? ⟨b, off + j * 2 + 1, none⟩ = some (.int .i64 x.wd) ∧ EdL w ea x.es) ∧ x.es.length ≤ maxLen) (fun j hlt => by
      obtain ⟨cs', y', hlen, hcell, ht⟩ := hj j hlt
      obtain ⟨x, ea, ec, rfl, h1, h2⟩ := node_of ht
      exact ⟨x, ⟨ea, ec, by simpa using hcell 0 (by omega), by simpa using hcell 1 (by omega), h2⟩, h1⟩)
    have hl : ((List.range m).map xs).length = m := by simp
    have hn : ∀ j, j < m → nod ((List.range m).map xs) j = xs j := fun j hj => by
      have e : ((List.range m).map xs)[j]?.getD ⟨[], -1⟩ = xs j := by simp [hj]
      exact e
    refine ⟨some ⟨b, off, none⟩, cap, (List.range m).map xs, by rw [hl]; exact e, ⟨by rw [hl]; exact hm, fun j hj => by rw [hl] at hj; rw [hn j hj]; exact (hxs j hj).2⟩, .inr ⟨b, off, rfl, fun j hj => ?_⟩⟩
    rw [hl] at hj
    rw [hn j hj]
    exact (hxs j hj).1
end Go.Proofs.YtfjjdicgekgbeaaGreatDoor.Tri
