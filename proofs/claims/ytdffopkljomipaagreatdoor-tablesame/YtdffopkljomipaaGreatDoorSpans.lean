/- Loops over eras.Spans: the iterator's contract, whatever the body does, and the statement, where the body may be left by a panic. -/
import Derived.Test.YtdffopkljomipaaGreatDoorDataB
import Derived.Test.YtdffopkljomipaaGreatDoorRf
import Derived.Shelf.Abstract
import Derived.Shelf.RegionOpen
import Derived.OwnWalkIn
import Derived.TacticsInMore
import Derived.LoopNIn
import Derived.LoopIn
namespace Go.Proofs.YtdffopkljomipaaGreatDoor
open Go Go.RowKit Go.Shelf
set_option linter.unusedVariables false
attribute [local go_sem] Oper.semAt_some

/-- what lies from B on lies as it lay -/
structure Kept (B : Nat) (W W' : World) : Prop where
  size : W.heap.size ≤ W'.heap.size
  same : ∀ b, B ≤ b → b < W.heap.size → W'.heap[b]? = W.heap[b]?
theorem Kept.refl (B : Nat) (W : World) : Kept B W W := ⟨Nat.le_refl _, fun _ _ _ => rfl⟩
theorem Kept.trans {B : Nat} {X Y Z : World} (h : Kept B X Y) (k : Kept B Y Z) : Kept B X Z := ⟨Nat.le_trans h.size k.size, fun b h1 h2 => (k.same b h1 (Nat.lt_of_lt_of_le h2 h.size)).trans (h.same b h1 h2)⟩
theorem Kept.of_below {B : Nat} {W W' : World} (h : Below W.heap.size W W') : Kept B W W' := ⟨h.size, fun b _ h2 => h.block b h2⟩
theorem Kept.set {B : Nat} (W : World) {b o : Nat} (h : b < B) (v : Value) : Kept B W (W.setCell ⟨b, o, none⟩ v) :=
  ⟨by simp [World.setCell], fun k h1 _ => Below.heap_setCell _ _ _ _ (by simp; omega)⟩

abbrev Er.cs (x : Er) : Array Value := #[.int .i64 x.std, .int .i64 x.set, .int .i64 x.sv, .string x.fm, .int .i64 x.un]
theorem ebox_new (w : World) (x : Er) : EAt (w.alloc (.cells x.cs 50)) w.heap.size 0 x := by
  refine ⟨?_, ?_, ?_, ?_, ?_⟩ <;> simp
/-- where the era k begins -/
def frm (es : Nat → Er) : Nat → Int | 0 => 0 | k + 1 => (es k).un
theorem EAt.same {w w' : World} {b o : Nat} {x : Er} (h : EAt w b o x) (hb : w'.heap[b]? = w.heap[b]?) : EAt w' b o x := by
  have hc : ∀ o, w'.cell? ⟨b, o, none⟩ = w.cell? ⟨b, o, none⟩ := fun o => World.cell?_of_block hb
  obtain ⟨h0, h1, h2, h3, h4⟩ := h
  exact ⟨(hc _).trans h0, (hc _).trans h1, (hc _).trans h2, (hc _).trans h3, (hc _).trans h4⟩

theorem Spans_c (ea : Option Addr) (ne ec : Nat) (w : World) : Calls Tryz.prog 16 #[.slice ea ne ec] w fun e w' => e = .returned (.func (.func 31) #[] #[.pointer (some ⟨w.heap.size, 0, none⟩)]) ∧ w' = w.alloc (.cells #[.slice ea ne ec] 46) := by
  have hmf : ∀ (fn : Fn) (first cap : Array Value) (w : World), (Instr.makeFunc fn first cap).run Tryz.prog w = .ok (.func fn first cap) w := fun _ _ _ _ => rfl
  go_enter Tryz.func16, Tryz.ntmps16
  go_wp2
  go_ret
  exact ⟨rfl, rfl⟩

/-- the iterator: whatever is true ahead of each round -/
theorem spans1_c (n l cb ne ec B : Nat) (ea : Option Addr) (es : Nat → Er) (J : Nat → World → Prop) (Jx : World → Prop) (Jp : List PanicEntry → World → Prop) (hne : ne ≤ maxLen)
    (hJa : ∀ k W o, J k W → J k (W.alloc o)) (hrd : ∀ k W, J k W → W.cell? ⟨cb, 0, none⟩ = some (.slice ea ne ec) ∧ ERow W ea ne es ∧ l < W.heap.size ∧ B ≤ W.heap.size)
    (hY : ∀ k W, J k W → k < ne → YieldAt Fence.wide (n - 1) Tryz.prog l #[.int .i64 (frm es k), (es k).v] W fun e W' =>
      (e = .returned (.bool true) ∧ J (k + 1) W' ∧ ∀ b, B ≤ b → b < W.heap.size → b ≠ l → W'.heap[b]? = W.heap[b]?) ∨ (e = .returned (.bool false) ∧ Jx W') ∨ ∃ ch, e = .panicked ch ∧ Jp ch W')
    (W : World) (h0 : J 0 W) :
    CallsIn Fence.wide n Tryz.prog 31 #[.func (.yield l) #[] #[], .pointer (some ⟨cb, 0, none⟩)] W fun e W' => (∃ v, e = .returned v ∧ (J ne W' ∨ Jx W')) ∨ ∃ ch, e = .panicked ch ∧ Jp ch W' := by
  unfold maxLen at hne
  have hc0 := (hrd 0 W h0).1
  refine callsIn_of_wp Tryz.func31 rfl trivial ?_ rfl
  simp only [Tryz.ntmps31, List.size_toArray, List.length_cons, List.length_nil, Nat.reduceAdd, Nat.reduceSub, Array.replicate_succ, Array.replicate_zero, List.push_toArray, List.append_toArray, List.nil_append, List.cons_append]
  have HJa := hideH hJa
  have Hrd := hideH hrd
  have HY := hideH hY
  have H0 := hideH h0
  clear hJa hrd hY h0
  gi_wp2
  clear hc0
  gi_loopw [3, 8] (fun x3 x8 wr => ∃ k : Nat, k ≤ ne ∧ x3 = .int .i64 (frm es k) ∧ x8 = .int .i64 k ∧ Hid (J k wr)) (fun _ x8 _ => ne - (intOf x8).toNat)
  case atStart => exact ⟨0, Nat.zero_le _, rfl, rfl, H0⟩
  case round =>
    obtain ⟨k, hk, rfl, rfl, HJ⟩ := hrel
    by_cases hlt : k < ne
    · obtain ⟨_, hrow, hl, hB⟩ := Hrd.out k wr HJ.out
      rcases hrow with h0 | ⟨b, off, hsa, hcs⟩
      · omega
      obtain ⟨c0, c1, c2, c3, c4⟩ := hcs k hlt
      clear hcs
      obtain ⟨fn, tmps, assign, body, hy, hR⟩ := HY.out k _ (HJa.out k wr (.cells (es k).cs 50) HJ.out) hlt
      have HR := hideH hR
      clear hR
      gi_wp2
      refine ⟨fun h => by simp [Fence.wide] at h, ?_⟩
      refine HR.out.mono ?_
      rintro e W3 (⟨rfl, hJ3, hk3⟩ | ⟨rfl, hx3⟩ | ⟨ch, rfl, hp3⟩)
      · have hu : W3.cell? ⟨wr.heap.size, 4, none⟩ = some (.int .i64 (es k).un) := by
          have := (ebox_new wr (es k)).same (hk3 wr.heap.size hB (by simp) (by omega))
          simpa using this.2.2.2.2
        have HJ3 := hideH hJ3
        clear hJ3 hk3 hy c0 c1 c2 c3 c4
        gi_wp2
        try simp only [← hsa]
        go_roundw
        case rel => exact ⟨k + 1, by omega, rfl, by go_num, HJ3⟩
        case measure => simp [intOf]; omega
      · have HX := hideH hx3
        clear hx3
        gi_wp2
        refine bodyPost_ret (results_none rfl _ _ _) rfl ?_
        exact .inl ⟨_, rfl, .inr HX.out⟩
      · exact ⟨rfl, .inr ⟨ch, rfl, hp3⟩⟩
    · obtain rfl : k = ne := by omega
      gi_wp2
      go_end0
      exact .inl ⟨_, rfl, .inl HJ.out⟩
end Go.Proofs.YtdffopkljomipaaGreatDoor
