/- A line is written: words that are texts or numbers. -/
import Derived.Test.YtbpdbggojgijiaaGreatDoorSourceA
import Derived.Test.YtbpdbggojgijiaaGreatDoorSourceM
import Derived.Lib.SmallJoins
namespace Go.Proofs.YtbpdbggojgijiaaGreatDoor.Src
open Go Go.RowKit
set_option linter.unusedVariables false

/-- a word: a text or a number -/
inductive Wo where
  | t (s : ByteArray)
  | n (i : Int)
def Wo.v : Wo → Value
  | .t s => .iface 9 (.string s)
  | .n i => .iface 3 (.int .i64 i)
def Wo.b : Wo → By
  | .t s => s.data.toList
  | .n i => Lib.itoa i
def Wo.ok : Wo → Prop
  | .t s => True
  | .n i => -9223372036854775808 ≤ i ∧ i ≤ 9223372036854775807
theorem join_snoc (x : By) : ∀ l : List By, joinW (l ++ [x]) = joinW l ++ ((if l = [] then [] else [32]) ++ x)
  | [] => by simp [joinW]
  | [a] => by simp [joinW]
  | a :: b :: l => by
    show a ++ 32 :: joinW (b :: l ++ [x]) = _
    rw [join_snoc x (b :: l)]
    simp [joinW]
theorem join_take {l : List By} {k : Nat} {x : By} (h : l[k]? = some x) : joinW (l.take (k + 1)) = joinW (l.take k) ++ ((if k = 0 then [] else [32]) ++ x) := by
  rw [List.take_add_one, h]
  show joinW (l.take k ++ [x]) = _
  rw [join_snoc]
  have hk := (List.getElem?_eq_some_iff.1 h).1
  by_cases e : k = 0
  · subst e; simp
  · rw [if_neg e, if_neg]
    intro e2
    have := congrArg List.length e2
    rw [List.length_take, Nat.min_eq_left (Nat.le_of_lt hk)] at this
    exact e this
theorem join_le (a : List By) : ∀ b : List By, (joinW a).length ≤ (joinW (a ++ b)).length := by
  intro b
  induction b generalizing a with
  | nil => simp
  | cons x b ih =>
    have := ih (a ++ [x])
    rw [join_snoc] at this
    simp at this ⊢
    omega
theorem join_take_le (l : List By) (k : Nat) : (joinW (l.take k)).length ≤ (joinW l).length := by
  have := join_le (l.take k) (l.drop k)
  rwa [List.take_append_drop] at this
/-- the table that numbers are told with -/
theorem hideS {p : Prop} (h : p) : Hid p := h
abbrev TabW (w : World) : Prop := Lib.TabIs Tryz.prog w "internal/strconv.uint64pow10" .u64 Lib.pow10Tab

theorem as_tt (v : Value) : ∀ w : World, (Instr.typeAssert (.iface 9 v) 20 9 true).run Tryz.prog w = .ok (.tuple #[v, .bool true]) w := fun w => by kernel_rfl
theorem as_nt (v : Value) : ∀ w : World, (Instr.typeAssert (.iface 3 v) 20 9 true).run Tryz.prog w = .ok (.tuple #[.string ⟨#[]⟩, .bool false]) w := fun w => by kernel_rfl
theorem as_nn (v : Value) : ∀ w : World, (Instr.typeAssert (.iface 3 v) 20 3 true).run Tryz.prog w = .ok (.tuple #[v, .bool true]) w := fun w => by kernel_rfl
theorem itoa_c (i : Int) (w : World) (h : (Wo.n i).ok) (hT : TabW w) : Calls Tryz.prog 36 #[.int .i64 i] w fun e w' => e = .returned (.string ⟨(Lib.itoa i).toArray⟩) ∧ Below w.heap.size w w' := by
  refine (Tryz.strconv_Itoa i h.1 h.2 w hT).mono ?_
  rintro e w' ⟨rfl, k, os, rfl⟩
  refine ⟨rfl, rfl, rfl, rfl, ?_, ?_⟩
  · simp [Go.Sort.grow]
  · intro b hb
    exact Go.Sort.heap_grow_old (w.drewN k) os hb
/-- what is new behind the writer is nothing to it -/
theorem wr_on {B b : Nat} {bs : By} {w w' : World} (h : WrI B b bs w) (hb : Below w.heap.size w w') : WrI B b bs w' := by
  have key : ∀ p, Lib.BuilderAt 44 5 B b p (Lib.byteCells bs) w → Lib.BuilderAt 44 5 B b p (Lib.byteCells bs) w' := fun p h => by
    obtain ⟨hB, v, hv, ho, hn⟩ := h
    refine ⟨hB, v, (hb.block _ (Array.getElem?_eq_some_iff.1 hv).1).trans hv, ⟨ho.1, ho.2.imp id fun ⟨g, cap, cur, h1, h2, h3, h4⟩ => ⟨g, cap, cur, h1, h2, (hb.block _ (Array.getElem?_eq_some_iff.1 h3).1).trans h3, h4⟩⟩, hn⟩
  exact h.imp (key _) (key _)
set_option maxHeartbeats 4000000 in
set_option maxRecDepth 100000 in
theorem line_c (B b : Nat) (bs : By) (ws : List Wo) (g off c : Nat) (cs : Array Value) (ty : TypeId) (fr : Nat × Nat) (w : World) (h : WrI B b bs w) (hg : w.heap[g]? = some (.cells cs ty fr)) (h1 : ty ≠ 44) (h2 : ty ≠ 5)
    (hcs : ∀ (j : Nat) (x : Wo), ws[j]? = some x → cs[off + j]? = some x.v) (hok : ∀ x ∈ ws, x.ok) (hn : ws.length ≤ 100) (hlen : bs.length + (joinW (ws.map Wo.b)).length + 1 ≤ 140737488355328) (hBw : B ≤ w.heap.size) (hT : ∀ v : World, Below B w v → TabW v) :
    Calls Tryz.prog 15 #[.pointer (some ⟨b, 0, none⟩), .slice (some ⟨g, off, none⟩) ws.length c] w fun e w' => e = .returned (.tuple #[]) ∧ WrI B b (bs ++ (joinW (ws.map Wo.b) ++ [10])) w' ∧ Below B w w' ∧ KW w w' := by
  have H := hideS h
  have HG : Hid (∀ (v : World) (j : Nat) (x : Wo), KW w v → ws[j]? = some x → v.cell? ⟨g, off + j, none⟩ = some x.v) := fun v j x hv hx => by
    rw [Lib.cell_of_heap (hv _ _ _ _ hg h1 h2)]
    exact hcs j x hx
  have HO := hideS hok
  have HT := hideS hT
  have HL : Hid (∀ k, (joinW ((ws.map Wo.b).take k)).length ≤ (joinW (ws.map Wo.b)).length) := join_take_le _
  obtain ⟨J, hJ⟩ : ∃ J : Nat → By, ∀ k, J k = joinW ((ws.map Wo.b).take k) := ⟨_, fun _ => rfl⟩
  have HJ : Hid (∀ (k : Nat) (x : Wo), ws[k]? = some x → J (k + 1) = J k ++ ((if k = 0 then [] else [32]) ++ x.b)) := fun k x hx => by
    rw [hJ, hJ]
    exact join_take (by simp [hx])
  have HL : Hid (∀ k, bs.length + (J k).length + 1 ≤ 140737488355328) := fun k => by
    have := join_take_le (ws.map Wo.b) k
    rw [hJ]
    omega
  have HE : Hid (J ws.length = joinW (ws.map Wo.b)) := by
    show _ = _
    rw [hJ, List.take_of_length_le (by simp)]
  have H0 : Hid (WrI B b (bs ++ J 0) w) := by
    have : J 0 = [] := by rw [hJ]; rfl
    show WrI B b (bs ++ J 0) w
    rw [this, List.append_nil]
    exact h
  have HWr : Hid (∀ (bs' : By) (s : ByteArray) (v : World), Hid (WrI B b bs' v) → Hid (Below B w v) → bs'.length + s.size ≤ 140737488355328 → Calls Tryz.prog 35 #[.pointer (some ⟨b, 0, none⟩), .string s] v fun e w' => e = .returned (.tuple #[.int .i64 s.size, .nilIface]) ∧ WrI B b (bs' ++ s.data.toList) w' ∧ Below B v w' ∧ KW v w') := fun bs' s v hv hb hl => wrWrite_c B b bs' s v hv.out hl (by have := hb.out.size; omega)
  rw [← HE.out]
  clear H hg hcs hok hT hlen h hJ
  go_enter Tryz.func15, Tryz.ntmps15
  go_wp2_with fail
  go_loopw [10] (fun x10 wr => ∃ k : Nat, k ≤ ws.length ∧ x10 = .int .i64 k ∧ Hid (WrI B b (bs ++ J k) wr) ∧ Hid (Below B w wr) ∧ Hid (KW w wr)) (fun x10 _ => ws.length - (intOf x10).toNat)
  case atStart => exact ⟨0, Nat.zero_le _, rfl, H0, Below.refl _ _, KW.refl _⟩
  case round =>
    obtain ⟨k, hk, rfl, HI, HB, HK⟩ := hrel
    by_cases hlt : k < ws.length
    · obtain ⟨x, hx⟩ : ∃ x, ws[k]? = some x := ⟨_, List.getElem?_eq_getElem hlt⟩
      have c0 := HG.out wr k x HK.out hx
      have hl := HL.out (k + 1)
      rw [HJ.out k x hx] at hl
      have HR : Hid (J (k + 1) = J k ++ ((if k = 0 then [] else [32]) ++ x.b)) := HJ.out k x hx
      have hxo := HO.out x (List.mem_of_getElem? hx)
      clear hx
      cases x with
      | t s =>
        have c1 : wr.cell? ⟨g, off + k, none⟩ = some (.iface 9 (.string s)) := c0
        have hl2 : bs.length + ((J k).length + ((if k = 0 then ([] : By) else [32]).length + s.size)) + 1 ≤ 140737488355328 := by
          have := hl
          simp only [List.length_append] at this
          have e : (Wo.b (.t s)).length = s.size := (Lib.size_eq s).symm
          rw [e] at this
          exact this
        clear c0 hl
        have a1 := as_tt (.string s)
        by_cases h0 : k = 0
        · subst h0
          rw [if_pos rfl] at HR hl2
          rw [Nat.add_zero] at c1
          have hl3 : bs.length + (J 0).length + s.size ≤ 140737488355328 := by simp at hl2; omega
          go_wp2_with (go_at_call 35; refine (HWr.out _ _ _ HI HB (by rw [List.length_append]; exact hl3)).mono ?_; rintro e w1 ⟨rfl, i1, b1, k1⟩)
          have I1 : Hid (WrI B b (bs ++ J 1) w1) := by
            show WrI B b (bs ++ J 1) w1
            rw [HR.out, List.nil_append, ← List.append_assoc]
            exact i1
          have B1 := hideS (HB.out.trans b1)
          have K1 := hideS (HK.out.trans k1)
          clear i1 b1 k1
          go_roundw
          case rel => exact ⟨1, by omega, by go_num, I1, B1, K1⟩
          case measure => simp [intOf]; omega
        · rw [if_neg h0] at HR hl2
          have hl3 : bs.length + (J k).length + 1 + s.size ≤ 140737488355328 := by simp at hl2; omega
          have hp : 0 < k := by omega
          clear h0
          go_wp2_with (go_at_call 35; first
            | (refine (HWr.out _ _ _ I1 B1 (by rw [List.length_append, List.length_append]; exact hl3)).mono ?_; rintro e w2 ⟨rfl, i2, b2, k2⟩)
            | (refine (HWr.out _ _ _ HI HB (by rw [List.length_append]; show _ + 1 ≤ _; omega)).mono ?_; rintro e w1 ⟨rfl, i1, b1, k1⟩; have I1 := hideS i1; have B1 := hideS (HB.out.trans b1); have K1 := hideS (HK.out.trans k1); clear i1 b1 k1))
          have I2 : Hid (WrI B b (bs ++ J (k + 1)) w2) := by
            show WrI B b (bs ++ J (k + 1)) w2
            rw [HR.out, ← List.append_assoc, ← List.append_assoc]
            exact i2
          have B2 := hideS (B1.out.trans b2)
          have K2 := hideS (K1.out.trans k2)
          clear i2 b2 k2
          go_roundw
          case rel => exact ⟨k + 1, by omega, by go_num, I2, B2, K2⟩
          case measure => simp [intOf]; omega
      | n i =>
        have c1 : wr.cell? ⟨g, off + k, none⟩ = some (.iface 3 (.int .i64 i)) := c0
        have hl2 : bs.length + ((J k).length + ((if k = 0 then ([] : By) else [32]).length + (Lib.itoa i).length)) + 1 ≤ 140737488355328 := by
          have := hl
          simp only [List.length_append] at this
          exact this
        clear c0 hl
        have a1 := as_nt (.int .i64 i)
        have a2 := as_nn (.int .i64 i)
        have HI2 : Hid (∀ v : World, Below B w v → Calls Tryz.prog 36 #[.int .i64 i] v fun e w' => e = .returned (.string ⟨(Lib.itoa i).toArray⟩) ∧ Below v.heap.size v w') := fun v hv => itoa_c i v hxo (HT.out v hv)
        clear hxo
        by_cases h0 : k = 0
        · subst h0
          rw [if_pos rfl] at HR hl2
          rw [Nat.add_zero] at c1
          have hl3 : bs.length + (J 0).length + (⟨(Lib.itoa i).toArray⟩ : ByteArray).size ≤ 140737488355328 := by simp at hl2; show _ + (Lib.itoa i).toArray.size ≤ _; rw [List.size_toArray]; omega
          clear hl2
          go_wp2_with fail
          go_region_with (first
            | (go_at_call 36; refine (HI2.out _ HB.out.drew).mono ?_; rintro e w1 ⟨rfl, b1⟩; have I1 : Hid (WrI B b (bs ++ J 0) w1) := wr_on (w := wr.drew) HI.out b1; have B1 : Hid (Below B w w1) := (HB.out.drew).trans (b1.mono (Nat.le_trans hBw HB.out.size)); have K1 : Hid (KW w w1) := KW.trans (b := wr.drew) HK.out (kw_on b1); clear b1)
            | (go_at_call 35; refine (HWr.out _ _ _ I1 B1 (by rw [List.length_append]; exact hl3)).mono ?_; rintro e w2 ⟨rfl, i2, b2, k2⟩))
          have I2 : Hid (WrI B b (bs ++ J 1) w2) := by
            show WrI B b (bs ++ J 1) w2
            rw [HR.out, List.nil_append, ← List.append_assoc]
            exact i2
          have B2 := hideS (B1.out.trans b2)
          have K2 := hideS (K1.out.trans k2)
          clear i2 b2 k2
          go_wp2_with fail
          go_roundw
          case rel => exact ⟨1, by omega, by go_num, I2, B2, K2⟩
          case measure => simp [intOf]; omega
        · rw [if_neg h0] at HR hl2
          have hl3 : bs.length + (J k).length + 1 + (⟨(Lib.itoa i).toArray⟩ : ByteArray).size ≤ 140737488355328 := by simp at hl2; show _ + (Lib.itoa i).toArray.size ≤ _; rw [List.size_toArray]; omega
          have hp : 0 < k := by omega
          clear h0 hl2
          go_wp2_with (go_at_call 35; refine (HWr.out _ _ _ HI HB (by rw [List.length_append]; show _ + 1 ≤ _; omega)).mono ?_; rintro e w1 ⟨rfl, i1, b1, k1⟩; have I1 := hideS i1; have B1 := hideS (HB.out.trans b1); have K1 := hideS (HK.out.trans k1); clear i1 b1 k1)
          go_region_with (first
            | (go_at_call 36; refine (HI2.out _ B1.out.drew).mono ?_; rintro e w2 ⟨rfl, b2⟩; have I2 : Hid (WrI B b (bs ++ J k ++ [32]) w2) := wr_on (w := w1.drew) I1.out b2; have B2 : Hid (Below B w w2) := (B1.out.drew).trans (b2.mono (Nat.le_trans hBw B1.out.size)); have K2 : Hid (KW w w2) := KW.trans (b := w1.drew) K1.out (kw_on b2); clear b2)
            | (go_at_call 35; refine (HWr.out _ _ _ I2 B2 (by rw [List.length_append, List.length_append]; exact hl3)).mono ?_; rintro e w3 ⟨rfl, i3, b3, k3⟩))
          have I3 : Hid (WrI B b (bs ++ J (k + 1)) w3) := by
            show WrI B b (bs ++ J (k + 1)) w3
            rw [HR.out, ← List.append_assoc, ← List.append_assoc]
            exact i3
          have B3 := hideS (B2.out.trans b3)
          have K3 := hideS (K2.out.trans k3)
          clear i3 b3 k3
          go_wp2_with fail
          go_roundw
          case rel => exact ⟨k + 1, by omega, by go_num, I3, B3, K3⟩
          case measure => simp [intOf]; omega
    · obtain rfl : k = ws.length := by omega
      have hl3 : (bs ++ J ws.length).length + (⟨#[10]⟩ : ByteArray).size ≤ 140737488355328 := by
        rw [List.length_append]
        exact HL.out _
      go_wp2_with (go_at_call 35; refine (HWr.out _ _ _ HI HB hl3).mono ?_; rintro e w1 ⟨rfl, i1, b1, k1⟩)
      go_end0
      exact ⟨rfl, by rw [← List.append_assoc]; exact i1, HB.out.trans b1, HK.out.trans k1⟩
end Go.Proofs.YtbpdbggojgijiaaGreatDoor.Src
