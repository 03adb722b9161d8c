/- strings.Replace of one ':' by nothing, once, at texts of any length that memory bears. -/
import Derived.Test.YtcdokhjmpkcpnafDoorShelfO
import Derived.WalkKit
import Derived.Lib.ReplaceLaws
import Derived.Lib.SplitLaws
import Derived.Lib.IndexBytes
import Derived.Lib.SlicesS
import Derived.Lib.IndexLaws
namespace Go.Proofs.YtcdokhjmpkcpnafDoor
open Go Go.RowKit
set_option linter.unusedVariables false

theorem hidR {p : Prop} (h : p) : Hid p := h
theorem rep_cnt (s : ByteArray) (w : World) : Calls Tryd.prog 30 #[.string s, .string ⟨#[58]⟩] w fun e w' => e = .returned (.int .i64 (Lib.countByte s.data.toList 58)) ∧ w' = w := Any.strings_Count_one { Tryd.lays154 with } s 58 w
theorem rep_idx (s : ByteArray) (w : World) : Calls Tryd.prog 27 #[.string s, .string ⟨#[58]⟩] w fun e w' => e = .returned (.int .i64 (Lib.indexByte s.data.toList 58)) ∧ w' = w := Any.strings_Index_one { Tryd.lays154 with } s 58 w
theorem rep_grow (B b n : Nat) (w : World) (hB : B ≤ b) (hbk : w.heap[b]? = some (.cells #[.pointer none, .slice none 0 0] 53 (0, 0))) (hBw : B ≤ w.heap.size) (hn : n ≤ 281474976710656) :
    Calls Tryd.prog 31 #[.pointer (some ⟨b, 0, none⟩), .int .i64 n] w fun e w' => e = .returned (.tuple #[]) ∧ (Lib.BuilderAt 53 5 B b (.pointer (some ⟨b, 0, none⟩)) [] w' ∧ Below B w w') := Any.Builder_Grow_fresh { Tryd.lays154 with } Tryd.Builder_Extra_154 B b n w hB hbk hBw hn
theorem rep_write (B b : Nat) (bs : List Value) (s : ByteArray) (w : World) (h : Lib.IsBuilder 53 5 B b bs w) (hlen : bs.length + s.size ≤ 140737488355328) (hBw : B ≤ w.heap.size) :
    Calls Tryd.prog 32 #[.pointer (some ⟨b, 0, none⟩), .string s] w fun e w' => e = .returned (.tuple #[.int .i64 s.size, .nilIface]) ∧ (Lib.BuilderAt 53 5 B b (.pointer (some ⟨b, 0, none⟩)) (bs ++ Lib.strCells s) w' ∧ Below B w w') := Any.Builder_WriteString { Tryd.lays154 with } Tryd.Builder_Extra_154 B b bs s w h hlen hBw
theorem rep_str (B b : Nat) (l : List UInt8) (w : World) (h : Lib.IsBuilder 53 5 B b (Lib.byteCells l) w) (hBw : B ≤ w.heap.size) :
    Calls Tryd.prog 34 #[.pointer (some ⟨b, 0, none⟩)] w fun e w' => e = .returned (.string ⟨l.toArray⟩) ∧ Below B w w' := Any.Builder_String_any { Tryd.lays154 with } Tryd.Builder_Extra_154 B b l w h hBw
theorem cnt_one (l : List UInt8) : Lib.count l [58] = Lib.countByte l 58 := by rw [Lib.count_one]; rfl
/-- nothing is replaced -/
theorem rep_none {l : List UInt8} (h : Lib.countByte l 58 = 0) : Lib.replace l [58] [] 1 = l := by
  unfold Lib.replace Lib.replaceNum
  rw [cnt_one, h]
  rfl
/-- the first is left out -/
theorem rep_hit {l : List UInt8} (h : Lib.countByte l 58 ≠ 0) : ∃ j : Nat, Lib.indexByte l 58 = j ∧ j + 1 ≤ l.length ∧ Lib.replace l [58] [] 1 = l.take j ++ l.drop (j + 1) := by
  obtain ⟨j, hj⟩ := Lib.index_of_count (s := l) (old := [58]) (by rw [cnt_one]; omega)
  have hr := Lib.index_room l [58] (by rw [hj]; omega)
  rw [hj] at hr
  refine ⟨j, by rw [← Lib.index_one]; exact hj, by simp at hr; omega, ?_⟩
  have e : Lib.replaceNum l [58] 1 = 0 + 1 := by
    unfold Lib.replaceNum
    rw [cnt_one, if_neg (by omega)]
    rfl
  unfold Lib.replace
  rw [if_neg (by decide), e, Lib.replaceK_hit _ _ 0 _ j hj]
  simp [Lib.replaceK]
set_option maxHeartbeats 8000000 in
set_option maxRecDepth 100000 in
theorem Replace1_c (s : ByteArray) (w : World) (hs : s.size ≤ 140737488355328) :
    Calls Tryd.prog 23 #[.string s, .string ⟨#[58]⟩, .string ⟨#[]⟩, .int .i64 1] w fun e w' => e = .returned (.string ⟨(Lib.replace s.data.toList [58] [] 1).toArray⟩) ∧ Below w.heap.size w w' := by
  have HC := hidR (rep_cnt s w)
  have hlenL : s.data.toList.length = s.size := (Lib.size_eq s).symm
  have o1 : (⟨#[58]⟩ : ByteArray).size = 1 := rfl
  have o2 : (⟨#[]⟩ : ByteArray).size = 0 := rfl
  have hb : ((⟨#[58]⟩ : ByteArray).toList == (⟨#[]⟩ : ByteArray).toList) = false := (Lib.bytes_beq_false_iff _ _).2 (by decide)
  by_cases h0 : Lib.countByte s.data.toList 58 = 0
  · rw [rep_none h0]
    rw [h0] at HC
    clear h0
    go_enter Tryd.func23, Tryd.ntmps23
    go_wp2_with (go_at_call 30; refine HC.out.mono ?_; rintro e w' ⟨rfl, hw⟩; rw [hw])
    go_ret
    exact ⟨rfl, Below.refl _ _⟩
  · obtain ⟨j, hj, hjl, hr⟩ := rep_hit h0
    rw [hr]
    obtain ⟨cn, hcn⟩ : ∃ cn : Nat, Lib.countByte s.data.toList 58 = cn := ⟨_, rfl⟩
    rw [hcn] at HC h0
    have hcz : ((cn : Int) == 0) = false := beq_eq_false_iff_ne.2 (by omega)
    have hc1 : ¬ ((cn : Int) < 1) := by omega
    have hcd : decide ((cn : Int) < 1) = false := by simp; omega
    have hod : decide (0 < (⟨#[58]⟩ : ByteArray).size) = true := by decide
    clear hr hcn
    go_enter Tryd.func23, Tryd.ntmps23
    go_wp2_with (go_at_call 30; refine HC.out.mono ?_; rintro e w' ⟨rfl, hw⟩; rw [hw])
    have hga : ((s.size : Int) + -1) = ((s.size - 1 : Nat) : Int) := by omega
    rw [hga]
    refine (rep_grow w.heap.size w.heap.size _ _ (Nat.le_refl _) (heap_alloc_new w _) (by simp) (by omega)).mono ?_
    rintro e w1 ⟨rfl, hb0, hb1⟩
    have H1 := hidR (Or.inr hb0 : Lib.IsBuilder 53 5 w.heap.size w.heap.size (Lib.byteCells []) w1)
    have Hb1 := hidR (((Below.refl w.heap.size w).alloc (Nat.le_refl _) _).trans hb1)
    clear hb0 hb1 hga HC
    go_wp2_with fail
    go_loopw [11, 53] (fun x11 x53 wx => ∃ (i start : Nat) (acc : List UInt8), x53 = .int .i64 i ∧ x11 = .int .i64 start ∧ (i = 0 ∧ start = 0 ∧ acc = [] ∨ i = 1 ∧ start = j + 1 ∧ acc = s.data.toList.take j) ∧ Hid (Lib.IsBuilder 53 5 w.heap.size w.heap.size (Lib.byteCells acc) wx) ∧ Hid (Below w.heap.size w wx)) (fun _ x53 _ => 1 - (intOf x53).toNat)
    case atStart => exact ⟨0, 0, [], rfl, rfl, .inl ⟨rfl, rfl, rfl⟩, H1, Hb1⟩
    case round =>
      obtain ⟨i, start, acc, rfl, rfl, hcase, HB, HW⟩ := hrel
      have hBw : w.heap.size ≤ wr.heap.size := HW.out.size
      rcases hcase with ⟨rfl, rfl, rfl⟩ | ⟨rfl, rfl, rfl⟩
      · have HI := hidR (rep_idx s wr)
        rw [hj] at HI
        have c4 : (j : Int) ≤ (s.size : Int) := by omega
        have c5 : (0 : Int) ≤ (j : Int) := by omega
        have hex : s.extract 0 s.size = s := by simp
        go_wp2_with (first | (go_at_call 27; refine HI.out.mono ?_; rintro e w' ⟨rfl, hw⟩; rw [hw]))
        refine (rep_write w.heap.size w.heap.size _ (s.extract 0 j) wr HB.out (by rw [Lib.byteCells_length, ByteArray.size_extract]; simp; omega) hBw).mono ?_
        rintro e w3 ⟨rfl, h3, hb3⟩
        have hBw3 : w.heap.size ≤ w3.heap.size := Nat.le_trans hBw hb3.size
        have H3 := hidR h3
        have Hb3 := hidR hb3
        clear h3 hb3 HI
        go_wp2_with fail
        refine (rep_write w.heap.size w.heap.size _ ⟨#[]⟩ w3 (Or.inr H3.out) (by rw [List.length_append, Lib.byteCells_length, Lib.strCells_length, ByteArray.size_extract, o2]; simp; omega) hBw3).mono ?_
        rintro e w4 ⟨rfl, h4, hb4⟩
        have hnx : Lib.byteCells [] ++ Lib.strCells (s.extract 0 j) ++ Lib.strCells ⟨#[]⟩ = Lib.byteCells (s.data.toList.take j) := by
          rw [Lib.strCells_eq, Lib.strCells_eq, Lib.extract_data, ← Lib.byteCells_append, ← Lib.byteCells_append]
          simp
        rw [hnx] at h4
        have H4 := hidR (Or.inr h4 : Lib.IsBuilder 53 5 w.heap.size w.heap.size (Lib.byteCells (s.data.toList.take j)) w4)
        have Hb4 := hidR ((HW.out.trans Hb3.out).trans hb4)
        clear h4 hb4 hnx
        go_wp2_with fail
        go_roundw
        case rel => exact ⟨1, j + 1, _, by first | rfl | go_num, by first | rfl | go_num, .inr ⟨rfl, rfl, rfl⟩, H4, Hb4⟩
        case measure => simp [intOf]
      · have c2 : ((j : Int) + 1) ≤ (s.size : Int) := by omega
        have c3 : (0 : Int) ≤ ((j : Int) + 1) := by omega
        go_wp2_with fail
        refine (rep_write w.heap.size w.heap.size _ (s.extract (j + 1) s.size) wr HB.out (by rw [Lib.byteCells_length, ByteArray.size_extract, List.length_take]; omega) hBw).mono ?_
        rintro e w3 ⟨rfl, h3, hb3⟩
        rw [Lib.strCells_eq, Lib.extract_to_end, ← Lib.byteCells_append] at h3
        have H3 := hidR (Or.inr h3 : Lib.IsBuilder 53 5 w.heap.size w.heap.size _ w3)
        have Hb3 := hidR (HW.out.trans hb3)
        have hBw3 : w.heap.size ≤ w3.heap.size := Hb3.out.size
        clear h3 hb3
        go_wp2_with fail
        refine (rep_str w.heap.size w.heap.size _ w3 H3.out hBw3).mono ?_
        rintro e w5 ⟨rfl, hb5⟩
        have Hb5 := hidR (Hb3.out.trans hb5)
        clear hb5
        go_wp2_with fail
        go_ret
        exact ⟨rfl, Hb5.out⟩
end Go.Proofs.YtcdokhjmpkcpnafDoor
