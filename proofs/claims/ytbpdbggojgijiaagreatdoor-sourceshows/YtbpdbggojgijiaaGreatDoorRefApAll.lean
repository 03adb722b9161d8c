/- Rows of a call's own that grow; parts of a body. -/
import Derived.Test.YtbpdbggojgijiaaGreatDoorDataDAll
import Derived.Deep.AppendLies
import Derived.Deep.QuietTactic
import Derived.BigQuiet
namespace Go.Proofs.YtbpdbggojgijiaaGreatDoor
open Go Go.RowKit Go.Maps
set_option linter.unusedVariables false

/-- what is left of a row of statements behind the first n -/
def ctl : Nat → Code → Code
  | 0, c => c
  | n + 1, .seq _ b => ctl n b
  | _ + 1, c => c
/-- two rows of the call's own that share no block -/
def ap (u v : Value) : Prop := ∀ g, u.ownBlock = some g → v.ownBlock ≠ some g
theorem own_lt {w : World} {base n size : Nat} {e : TypeId} {v : Value} {xs : List Value} (h : w.ownsRow base e size v n xs) {g : Nat} (hg : v.ownBlock = some g) : base ≤ g ∧ g < w.heap.size := by
  rcases h.2 with ⟨rfl, _⟩ | ⟨g', cap, cur, rfl, hb, hh, _⟩
  · simp [Value.ownBlock] at hg
  · obtain rfl : g' = g := by simpa [Value.ownBlock] using hg
    exact ⟨hb, (Array.getElem?_eq_some_iff.1 hh).1⟩
theorem own_far {w w' : World} {base n size : Nat} {e : TypeId} {u v : Value} {xs : List Value} (h : w.ownsRow base e size u n xs) (hg : w.grownBy w' v.ownBlock) (ha : ap u v) : w'.ownsRow base e size u n xs :=
  h.kept hg (by
    cases hu : u.ownBlock with
    | none => exact .inl rfl
    | some g => exact .inr (fun e => ha g hu e.symm))
theorem ap_new {w : World} {base n size m cap g H : Nat} {e : TypeId} {u v : Value} {xs : List Value} (h : w.ownsRow base e size u n xs) (ha : ap u v) (hat : v.ownBlock = some g ∨ g = H) (hH : w.heap.size ≤ H) : ap u (.slice (some ⟨g, 0, none⟩) m cap) := by
  intro k hk hx
  obtain rfl : g = k := by simpa [Value.ownBlock] using hx
  rcases hat with h1 | h1
  · exact ha g hk h1
  · have := own_lt h hk; omega
theorem ap_symm {u v : Value} (h : ap u v) : ap v u := fun g hg hx => h g hx hg
theorem ap_nil (u : Value) : ap u (.slice none 0 0) := fun g _ hx => by simp [Value.ownBlock] at hx
theorem box_grown {w W w1 : World} {base n size : Nat} {e : TypeId} {v : Value} {xs : List Value} {o : Obj} (hB : W.heap[w.heap.size]? = some o) (h : W.ownsRow (w.heap.size + 1) e size v n xs) (hg : W.grownBy w1 v.ownBlock) : w1.heap[w.heap.size]? = some o := by
  rw [hg.block w.heap.size (Array.getElem?_eq_some_iff.1 hB).1 (fun e => by have := (own_lt h e.symm).1; omega)]
  exact hB
theorem below_grown {w W w1 : World} {n size : Nat} {e : TypeId} {v : Value} {xs : List Value} (hB : Below w.heap.size w W) (h : W.ownsRow (w.heap.size + 1) e size v n xs) (hg : W.grownBy w1 v.ownBlock) : Below w.heap.size w w1 :=
  hB.grown hg hB.size (fun k hk => by have := (own_lt h hk).1; omega)
theorem below_grown0 {w W w1 : World} {n size : Nat} {e : TypeId} {v : Value} {xs : List Value} (hB : Below w.heap.size w W) (h : W.ownsRow w.heap.size e size v n xs) (hg : W.grownBy w1 v.ownBlock) : Below w.heap.size w w1 :=
  hB.grown hg hB.size (fun k hk => by have := (own_lt h hk).1; omega)
theorem box_alloc {W : World} {b : Nat} {o : Obj} (h : W.heap[b]? = some o) (x : Obj) : (W.alloc x).heap[b]? = some o := (((Below.refl _ W).alloc (Nat.le_refl _) x).block b (Array.getElem?_eq_some_iff.1 h).1).trans h
theorem row_two (n : Nat) (f : Nat → Value) {x y : Value} (hx : x = f n) (hy : y = f (n + 1)) : (List.range n).map f ++ [x, y] = (List.range (n + 2)).map f := by
  rw [List.range_succ, List.range_succ, hx, hy]; simp
theorem row_one (n : Nat) (f : Nat → Value) {x : Value} (hx : x = f n) : (List.range n).map f ++ [x] = (List.range (n + 1)).map f := by
  rw [List.range_succ, hx]; simp
end Go.Proofs.YtbpdbggojgijiaaGreatDoor

/- The document's own twice. -/
namespace Go.Proofs.YtbpdbggojgijiaaGreatDoor
open Go Go.RowKit Go.Maps
set_option linter.unusedVariables false

theorem beq_list {a b : ByteArray} {v : Bool} (h : (a.toList == b.toList) = v) : (a.data.toList = b.data.toList) ↔ v = true := by
  rw [ByteArray.toList_eq, ByteArray.toList_eq] at h
  rw [← h]
  simp
set_option maxRecDepth 100000 in
set_option maxHeartbeats 2000000 in
theorem twice_some (b off n c : Nat) (nm : Nat → ByteArray) (w : World) (hR : ∀ j, j < n → w.cell? ⟨b, off + j, none⟩ = some (.string (nm j))) (hm : n ≤ maxLen) : Calls Tryz.prog 19 #[.slice (some ⟨b, off, none⟩) n c] w fun e w' => e = .returned (.bool (!decide (dist nm n))) ∧ Below w.heap.size w w' := by
  unfold maxLen at hm
  generalize hV : (!decide (dist nm n)) = V
  have HV := hideH hV
  have HR : Hid (∀ v, Below w.heap.size w v → ∀ j, j < n → v.cell? ⟨b, off + j, none⟩ = some (.string (nm j))) := fun v hv j hj => cell_on (hR j hj) hv
  clear hV hR
  go_enter Tryz.func19, Tryz.ntmps19
  go_wp2_with fail
  go_loopw [3] (fun x3 v => ∃ i : Nat, i ≤ n ∧ x3 = .int .i64 i ∧ Hid (Below w.heap.size w v) ∧ Hid (∀ p, p < i → ∀ q, q < p → (nm p).data.toList ≠ (nm q).data.toList)) (fun x3 _ => n - (intOf x3).toNat)
  case atStart => exact ⟨0, Nat.zero_le _, rfl, Below.refl _ _, fun p hp => by omega⟩
  case round =>
    obtain ⟨i, hi, rfl, HW, HA⟩ := hrel
    by_cases hlt : i < n
    · go_wp2_with fail
      go_loopw [4] (fun x4 v => ∃ k : Nat, k ≤ i ∧ x4 = .int .i64 k ∧ Hid (Below w.heap.size w v) ∧ Hid (∀ q, q < k → (nm i).data.toList ≠ (nm q).data.toList)) (fun x4 _ => i - (intOf x4).toNat)
      case atStart => exact ⟨0, Nat.zero_le _, rfl, HW, fun q hq => by omega⟩
      case round =>
        obtain ⟨k, hk, rfl, HW2, HB⟩ := hrel
        by_cases hki : k < i
        · rename World => v
          have c0 := HR.out _ HW2.out i hlt
          have c1 := HR.out _ HW2.out k (by omega)
          have i0 : decide ((i : Int) < 0) = false := by simp
          have i1 : decide (n ≤ i) = false := by simp; omega
          have k0 : decide ((k : Int) < 0) = false := by simp
          have k1 : decide (n ≤ k) = false := by simp; omega
          have i2 : (i : Int) < (n : Int) := by omega
          have k2 : (k : Int) < (n : Int) := by omega
          cases hq : ((nm i).toList == (nm k).toList)
          · have HB2 : Hid (∀ q, q < k + 1 → (nm i).data.toList ≠ (nm q).data.toList) := fun q hq' => by
              rcases Nat.lt_or_ge q k with h | h
              · exact HB.out q h
              · obtain rfl : q = k := by omega
                intro e
                have := (beq_list hq).1 e
                cases this
            go_wp2_with fail
            go_quiet (fail)
            go_wp2
            go_roundw
            case rel => exact ⟨k + 1, by omega, by go_num, below_drewN HW2.out _, HB2⟩
            case measure => simp [intOf]; omega
          · have HX : Hid (V = true) := by
              show V = true
              rw [← HV.out]
              simp only [Bool.not_eq_true', decide_eq_false_iff_not]
              intro h
              exact h i hlt k hki ((beq_list hq).2 rfl)
            go_wp2_with fail
            go_quiet (fail)
            go_wp2
            go_ret
            exact ⟨ret_bool HX.out.symm, below_drewN HW2.out _⟩
        · have HA2 : Hid (∀ p, p < i + 1 → ∀ q, q < p → (nm p).data.toList ≠ (nm q).data.toList) := fun p hp q hq => by
            rcases Nat.lt_or_ge p i with h | h
            · exact HA.out p h q hq
            · obtain rfl : p = i := by omega
              exact HB.out q (by omega)
          go_wp2_with fail
          go_roundw
          case rel => exact ⟨i + 1, by omega, by go_num, HW2, HA2⟩
          case measure => simp [intOf]; omega
    · have HX : Hid (V = false) := by
        show V = false
        rw [← HV.out]
        simp only [Bool.not_eq_false', decide_eq_true_eq]
        exact fun p hp q hq => HA.out p (by omega) q hq
      go_wp2_with fail
      go_ret
      exact ⟨ret_bool HX.out.symm, HW.out⟩
theorem twice_none (a : Option Addr) (c : Nat) (nm : Nat → ByteArray) (w : World) : Calls Tryz.prog 19 #[.slice a 0 c] w fun e w' => e = .returned (.bool (!decide (dist nm 0))) ∧ Below w.heap.size w w' := by
  have hd : dist nm 0 := fun i hi => by omega
  rw [decide_eq_true hd]
  go_enter Tryz.func19, Tryz.ntmps19
  go_wp2_with fail
  go_loop [3] (fun x3 => x3 = .int .i64 0) (fun _ => 0)
  case atStart => rfl
  case round =>
    subst hrel
    go_wp2_with fail
    go_ret
    exact ⟨rfl, Below.refl _ _⟩
theorem twice_c (a : Option Addr) (n c : Nat) (nm : Nat → ByteArray) (w : World) (hR : P1 w a n (fun j => .string (nm j))) (hm : n ≤ maxLen) : Calls Tryz.prog 19 #[.slice a n c] w fun e w' => e = .returned (.bool (!decide (dist nm n))) ∧ Below w.heap.size w w' := by
  rcases hR with rfl | ⟨b, off, rfl, h⟩
  · exact twice_none a c nm w
  · exact twice_some b off n c nm w h hm
end Go.Proofs.YtbpdbggojgijiaaGreatDoor
